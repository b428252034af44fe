/- Parsing: types, payloads, recursion, by what Lf session types. (and what follows from it) -/
import Derived.Test.YtmnbheplkidfaaaGreatDoorPw2
import Derived.Deep.RegionHeld3
import Derived.Deep.RegionHeldLaw
import Derived.Deep.AppendLies
import Derived.Deep.RegionLaw
set_option maxHeartbeats 16000000
set_option maxRecDepth 100000
namespace Go.Proofs.YtmnbheplkidfaaaGreatDoor
open Go.Lib (hid)
open Go.RowKit Go.Shelf
theorem MS(P tb:Nat)(E:Int)(ts:List Tk)(B:Nat)(w:World)(he:Env B w)(hBP:B<=P)(h:PaIs P tb E ts w)(S:List Tk->PR Ty)(n:Nat)(hn:ts.length<n)(hS:SessOK P tb E B S n):
 Calls Tryz.prog 36 #[.pointer (some ⟨P,0,none⟩)] w (Parsed P tb E w (Js S ts) (GTy w.heap.size)):=by
 obtain⟨W1,HW1,hs1,hP,htb,HTB,HP,HB,HB1,HX1,HE⟩:=pro #[.int .i64 0,.int .i64 0,.string ⟨#[]⟩,.int .i64 0,.slice none 0 0,.slice none 0 0] 28 he h
 clear he h
 have HS:=hid hS
 clear hS
 obtain⟨q,HQ⟩:=exq (Js S ts)
 rw[HQ.out]
 go_enter Tryz.func36,Tryz.ntmps36
 go_upto_region 1 with fail
 rw[HW1.out]
 go_wp2_with (first|(go_at_call 50;refine(takC HP HB).mono ?_;rintro _ wn (⟨h0,rfl,HP,HB⟩|⟨h0,rfl,HP,HB⟩) <;> obtain⟨⟨⟨q0,q1,q2,q3,q4,q5⟩,z0,z1,z2,z3,z4,z5⟩,HX9⟩:=YX HX1 HB hs1 hP)|(go_at_call 68;refine(HS.out _ _ (by omega) (HE.out.but HB.out hBP) HP.out).mono ?_;rintro _ wn h;have hz:=HB.out.size;rcases Parsed.part HB h with⟨t,r,v,h0,rfl,hg,HP,HB⟩|⟨er,r,h0,rfl,HB⟩;obtain⟨la,ln,lc,ka,kn,kc,rfl⟩:=hg.open;have HG:=hid (hg.mono hz);clear hg;obtain⟨⟨⟨q0,q1,q2,q3,q4,q5⟩,z0,z1,z2,z3,z4,z5⟩,HX9⟩:=YX HX1 HB hs1 hP))
 any_goals (first|(obtain rfl:q= .bad er r:=HQ.out.symm.trans (by simp[Js, *]);exact⟨rfl,rfl,(But.of HB1.out).trans HB.out⟩)|fail)
 ·obtain rfl:q= .ok (.mk 1 0 ⟨#[]⟩ 0 [] []) ts.tail:=HQ.out.symm.trans (by simp[Js, *] <;> rfl)
  refine bodyPost_ret ?_ rfl (ZK (GTy.leaf _ _ 1 0 0 ⟨#[]⟩ (Nat.zero_le _)) hs1 hP htb HP HB1 HB)
  simp[results,Tryz.results36,go_sem,y6 HX9]
 ·obtain rfl:q= .ok (.mk 2 0 ⟨#[]⟩ 0 [] []) ts.tail:=HQ.out.symm.trans (by simp[Js, *] <;> rfl)
  refine bodyPost_ret ?_ rfl (ZK (GTy.leaf _ _ 2 0 0 ⟨#[]⟩ (Nat.zero_le _)) hs1 hP htb HP HB1 HB)
  simp[results,Tryz.results36,go_sem,y6 HX9]
 ·obtain rfl:q= .ok (t) r:=HQ.out.symm.trans (by simp[Js, *] <;> rfl)
  refine bodyPost_ret ?_ rfl (ZK (HG.out) hs1 hP htb HP HB1 HB)
  simp[results,Tryz.results36,go_sem,y6 HX9]
theorem Sm(P tb:Nat)(E:Int)(ts:List Tk)(B:Nat)(w:World)(he:Env B w)(hBP:B<=P)(h:PaIs P tb E ts w)(S:List Tk->PR Ty)(n:Nat)(hn:ts.length<n)(hS:SessOK P tb E B S n):
 Calls Tryz.prog 121 #[.pointer (some ⟨P,0,none⟩)] w (Parsed P tb E w (JO S ts) (GTy w.heap.size)):=by
 obtain⟨W1,HW1,hs1,hP,htb,HTB,HP,HB,HB1,HX1,HE⟩:=pro #[.int .i64 0,.int .i64 0,.string ⟨#[]⟩,.int .i64 0,.slice none 0 0,.slice none 0 0] 28 he h
 clear he h
 have HS:=hid hS
 clear hS
 have HN:=hid (YM P tb E ts W1 HP.out)
 have hf1:=My
 obtain⟨_,_,_,_,hz,_⟩:=VJ HP.out
 have u0:=UJ (E:=E) (s:=sBang) (by decide+kernel) ts
 have u1:=UJ (E:=E) (s:=sAsk) (by decide+kernel) ts
 have u2:=UJ (E:=E) (s:=sPlus) (by decide+kernel) ts
 have u3:=UJ (E:=E) (s:=sAnd) (by decide+kernel) ts
 have u4:=UJ (E:=E) (s:=sRec) (by decide+kernel) ts
 obtain⟨⟨k,u,v,a⟩,hx⟩:=exw (hdTk E ts)
 rw[hx] at HN u0 u1 u2 u3 u4 hz
 simp only at u0 u1 u2 u3 u4 hz
 clear hx
 rw[show sBang.toList=[33] from by decide+kernel] at u0
 rw[show sAsk.toList=[63] from by decide+kernel] at u1
 rw[show sPlus.toList=[43] from by decide+kernel] at u2
 rw[show sAnd.toList=[38] from by decide+kernel] at u3
 rw[show sRec.toList=[114,101,99] from by decide+kernel] at u4
 obtain⟨q,HQ⟩:=exq (JO S ts)
 rw[HQ.out]
 cases h0:hd sBang ts
 cases h1:hd sAsk ts
 cases h2:hd sPlus ts
 cases h3:hd sAnd ts
 cases h4:hd sRec ts
 all_goals
  try rw[h0] at u0
  try rw[h1] at u1
  try rw[h2] at u2
  try rw[h3] at u3
  try rw[h4] at u4
  go_enter Tryz.func121,Tryz.ntmps121
  go_upto_region 1 with fail
  rw[HW1.out]
  go_wp2_with (first|(go_at_call 76;refine HN.out.mono ?_;rintro en wn⟨rfl,hp⟩;replace HP:=hid (HP.out.to hp);replace HB:=hid (HB.out.to hp);clear hp)|(go_at_call 49;refine(Zo P tb E ts 1 _ HP.out).mono ?_;rintro en wn⟨rfl,hb⟩;replace HB:=hid (HB.out.trans hb);clear hb)|(go_at_call 36;refine(MS P tb E _ B _ (HE.out.but HB.out hBP) hBP HP.out S n hn HS.out).mono ?_;rintro _ wn h;have hz2:=HB.out.size;rcases Parsed.part HB h with⟨t,r,v,h0,rfl,hg,HP,HB⟩|⟨er,r,h0,rfl,HB⟩;obtain⟨la,ln,lc,ka,kn,kc,rfl⟩:=hg.open;have HG:=hid (hg.mono hz2);clear hg;obtain⟨⟨⟨q0,q1,q2,q3,q4,q5⟩,z0,z1,z2,z3,z4,z5⟩,HX9⟩:=YX HX1 HB hs1 hP))
 any_goals (first|(obtain rfl:q= .bad er r:=HQ.out.symm.trans (by simp[JO, *]);exact⟨rfl,rfl,(But.of HB1.out).trans HB.out⟩)|(obtain rfl:q= .bad 1 ts:=HQ.out.symm.trans (by simp[JO, *]);exact⟨rfl,rfl,(But.of HB1.out).trans HB.out⟩)|fail)
 obtain rfl:q= .ok (t) r:=HQ.out.symm.trans (by simp[JO, *] <;> rfl)
 refine bodyPost_ret ?_ rfl (ZK (HG.out) hs1 hP htb HP HB1 HB)
 simp[results,Tryz.results121,go_sem,y6 HX9]
theorem Sk(P tb:Nat)(E:Int)(ts:List Tk)(B:Nat)(w:World)(he:Env B w)(hBP:B<=P)(h:PaIs P tb E ts w)(S:List Tk->PR Ty)(n:Nat)(hn:ts.length<n)(hS:SessOK P tb E B S n):
 Calls Tryz.prog 95 #[.pointer (some ⟨P,0,none⟩)] w (Parsed P tb E w (VH Qb S ts) (GTy w.heap.size)):=by
 obtain⟨W1,HW1,hs1,hP,htb,HTB,HP,HB,HB1,HX1,HE⟩:=pro #[.int .i64 0,.int .i64 0,.string ⟨#[]⟩,.int .i64 0,.slice none 0 0,.slice none 0 0] 28 he h
 clear he h
 have HS:=hid hS
 clear hS
 obtain⟨q,HQ⟩:=exq (VH Qb S ts)
 rw[HQ.out]
 go_enter Tryz.func95,Tryz.ntmps95
 go_upto_region 1 with fail
 rw[HW1.out]
 go_wp2_with (first|(go_at_call 78;refine(namC HP HB (HE.out.but HB.out hBP)).mono ?_;rintro _ wn (⟨nm,_,h0,rfl,l0,hnz,HP,HB⟩|⟨er,r,h0,rfl,HB⟩))|(go_at_call 52;refine(expC HP HB).mono ?_;rintro _ wn (⟨_,_,h0,rfl,l0,HP,HB⟩|⟨er,r,h0,rfl,HB⟩))|(go_at_call 68;refine(HS.out _ _ (by omega) (HE.out.but HB.out hBP) HP.out).mono ?_;rintro _ wn h;have hz:=HB.out.size;rcases Parsed.part HB h with⟨t,r,v,h0,rfl,hg,HP,HB⟩|⟨er,r,h0,rfl,HB⟩;obtain⟨la,ln,lc,ka,kn,kc,rfl⟩:=hg.open;have HG:=hid (hg.mono hz);clear hg;obtain⟨W5,HW5,hl5,hn5,hwn,HB5,HP,HB,-,HX5⟩:=box (cT t la ln lc ka kn kc) 28 HP HB (by omega);have hW5:=HW5.out;obtain⟨⟨⟨q0,q1,q2,q3,q4,q5⟩,z0,z1,z2,z3,z4,z5⟩,HX9⟩:=YX HX1 HB hs1 hP))
 any_goals (first|(obtain rfl:q= .bad er r:=HQ.out.symm.trans (by simp[VH,PR.bind, *]);exact⟨rfl,rfl,(But.of HB1.out).trans HB.out⟩)|fail)
 obtain rfl:q= .ok (.mk 8 0 nm 0 [] [t]) r:=HQ.out.symm.trans (by simp[VH,PR.bind, *] <;> rfl)
 refine bodyPost_ret ?_ rfl (ZK (GTy.node hnz (Mz _ _) (Rs HX5.out ⟨hwn,hl5⟩ (HG.out.but (But.of (P:=P) HB5.out) (Nat.lt_trans hP hs1)))) hs1 hP htb HP HB1 HB)
 simp[results,Tryz.results95,go_sem,y6 HX9]
end Go.Proofs.YtmnbheplkidfaaaGreatDoor
namespace Go.Proofs.YtmnbheplkidfaaaGreatDoor
open Go.Lib (hid)
open Go.RowKit Go.Shelf Go.Deep
theorem Jj{P:Program}{md:Region.Mode}{l:List Oper}{Q:Exit->Act->World->Prop}{S:World->Prop}{fuel:Nat}{B:List Bool}{T:List Value}{ds:List Deferred}{w:World}(i:Nat){o:Oper}(ho:l[i]? =some o)(hg:o.guard=none)
 (hr:Region.ready md l.toArray B.toArray=[i])
 (h:∀K:Act->World->Prop,Shut (∀v w',S w'->(S w'->wpAnyH P md l.toArray Q S fuel (B.set i true).toArray ⟨(setD T o.dst v).toArray,ds⟩ w')->K ⟨(setD T o.dst v).toArray,ds⟩ w')->Oper.wp P o ⟨T.toArray,ds⟩ w K Q):
 wpAnyH P md l.toArray Q S (fuel+1) B.toArray ⟨T.toArray,ds⟩ w:=by
 refine wpAnyH_all hr (by simp) (fun j hj=>?_)
 obtain rfl:=mS hj
 have ho':l.toArray[j]? =some o:=by simpa using ho
 have hw:Region.wanted o (yielded l.toArray T.toArray)=true:=by simp[Region.wanted,hg]
 unfold wpOp
 simp only[ho']
 rw[if_pos hw]
 refine .inl (h _ (fun v w' h1 h2=>?_))
 refine⟨h1,?_⟩
 rw[List.setIfInBounds_toArray]
 exact h2 h1
theorem But.drew{P:Nat}{V w:World}(h:But P V w):But P V w.drew:=⟨h.os,h.tape,h.output,h.size,h.block⟩
theorem VS{ts:List Tk}{x:Int}{r:List Tk}(h:QO ts= .ok x r):r.length<ts.length:=by
 cases ts with
 |nil=>cases h
 |cons y s=>
  rw[QO] at h
  split at h
  ·cases h
  split at h
  ·cases h
  ·cases h;simp
theorem Yi{ts:List Tk}{x:Int}{r:List Tk}(h:Zj ts= .ok x r):r.length<=ts.length:=by
 cases ts with
 |nil=>cases h;simp
 |cons y s=>
  rw[Zj] at h
  split at h
  ·cases h;simp
  ·exact Nat.le_of_lt (VS h)
def Qr{α:Type}(S:List Tk->PR α):Prop:=∀ts x r,S ts= .ok x r->r.length<ts.length
theorem QH{s:ByteArray}{ts:List Tk}(h:hd s ts=true):ts.tail.length<ts.length:=by
 cases ts with
 |nil=>cases h
 |cons y s=>simp
theorem HU{S:List Tk->PR Ty}(hS:Qr S):Qr (Js S):=by
 intro ts x r h
 unfold Js at h
 split at h
 ·next hh=>cases h;exact QH hh
 split at h
 ·next hh=>cases h;exact QH hh
 ·exact hS _ _ _ h
theorem Hz{S:List Tk->PR Ty}(hS:Qr S):Qr (JO S):=by
 intro ts x r h
 unfold JO at h
 split at h
 ·cases h
 ·exact HU hS _ _ _ h
theorem Rr{B:Nat->Prop}{W:World}{b:Nat}{T:TypeId}{fr:Nat×Nat}{t u:Ty}{la:Option Addr}{ln lc:Nat}{ka:Option Addr}{kn kc:Nat}{la':Option Addr}{ln' lc':Nat}{ka':Option Addr}{kn' kc':Nat}(h:W.heap[b]? =some (.cells #[.int .i64 t.k,.int .i64 t.p,.string t.n,.int .i64 t.s,.slice la ln lc,.slice ka kn kc,.int .i64 u.k,.int .i64 u.p,.string u.n,.int .i64 u.s,.slice la' ln' lc',.slice ka' kn' kc'] T fr))(hb:B b)(ht:TyVal B W (.agg (cT t la ln lc ka kn kc)) t)(hu:TyVal B W (.agg (cT u la' ln' lc' ka' kn' kc')) u):TySl B W (.slice (some ⟨b,0,none⟩) 2 2) [t,u]:=by
 have cell:∀i v,[Value.int .i64 t.k,.int .i64 t.p,.string t.n,.int .i64 t.s,.slice la ln lc,.slice ka kn kc,.int .i64 u.k,.int .i64 u.p,.string u.n,.int .i64 u.s,.slice la' ln' lc',.slice ka' kn' kc'][i]? =some v->W.cell? ⟨b,i,none⟩=some v:=by
  intro i v hi
  simp only[World.cell?,h]
  simpa using hi
 have a1:TyAt B W t b 0:=XO hb (cell 0 _ rfl) (cell 1 _ rfl) (cell 2 _ rfl) (cell 3 _ rfl) (cell 4 _ rfl) (cell 5 _ rfl) ht
 have a2:TyAt B W u b (0+6):=XO hb (cell 6 _ rfl) (cell 7 _ rfl) (cell 8 _ rfl) (cell 9 _ rfl) (cell 10 _ rfl) (cell 11 _ rfl) hu
 exact⟨.inr ⟨b,0,2,rfl,hb,by simp only[TysAt];exact⟨a1,a2,trivial⟩⟩,by simp[maxLen]⟩
theorem Vf{P:Program}{md:Region.Mode}{l:List Oper}{Q:Exit->Act->World->Prop}{S:World->Prop}{fuel:Nat}{B:List Bool}{T:List Value}{ds:List Deferred}{w:World}(i:Nat){oi:Oper}{v:Value}(hi:l[i]? =some oi)(hv:∀w,S w->(execOp (Act.eval ⟨T.toArray,ds⟩) oi).run P w= .ok (.value v) w)
 (h:wpAnyH P md l.toArray Q S fuel (B.set i true).toArray ⟨(setD T oi.dst v).toArray,ds⟩ w) (hS:S w:=by assumption) (hg:oi.guard=none:=by rfl)
 (hs:Region.noSelect l.toArray=true:=by kernel_rfl) (hf:Region.free md l.toArray B.toArray i=true:=by kernel_rfl) (hr:(Region.ready md l.toArray B.toArray).contains i=true:=by kernel_rfl)
 (hQ:∀c a w,Q (.panic c) (a.put oi.dst v) w->Q (.panic c) a w:=by exact fun _ _ _ h=>h):wpAnyH P md l.toArray Q S (fuel+1) B.toArray ⟨T.toArray,ds⟩ w:=ZU i hi hg hs hf hr hQ hv hS h
theorem t6{P T6:Nat}{W4:World}{T:TypeId}{a b c d e f:Value}(HX4:Hid (W4.heap[T6]? =some (.cells #[a,b,c,d,e,f] T (0,0))))(hl4:T6<W4.heap.size)(hn4:T6≠P)(W:World)(hW:But P W4 W):W.cell? ⟨T6,0,none⟩=some a/\W.cell? ⟨T6,1,none⟩=some b/\W.cell? ⟨T6,2,none⟩=some c/\W.cell? ⟨T6,3,none⟩=some d/\W.cell? ⟨T6,4,none⟩=some e/\W.cell? ⟨T6,5,none⟩=some f:=(c6 ((hW.block T6 hl4 hn4).trans HX4.out)).1
theorem TF(P tb:Nat)(E:Int)(ts:List Tk)(B:Nat)(w:World)(he:Env B w)(hBP:B<=P)(h:PaIs P tb E ts w)(S:List Tk->PR Ty)(n:Nat)(hn:ts.length<n)(hS:SessOK P tb E B S n)(hSl:Qr S)(k:Int):
 Calls Tryz.prog 93 #[.pointer (some ⟨P,0,none⟩),.int .i64 k] w (Parsed P tb E w (Zg S k ts) (GTy w.heap.size)):=by
 obtain⟨W1,HW1,hs1,hP,htb,HTB,HP,HB,HB1,HX1,HE⟩:=pro #[.int .i64 0,.int .i64 0,.string ⟨#[]⟩,.int .i64 0,.slice none 0 0,.slice none 0 0] 28 he h
 clear he h
 have HS:=hid hS
 clear hS
 obtain⟨q,HQ⟩:=exq (Zg S k ts)
 rw[HQ.out]
 go_enter Tryz.func93,Tryz.ntmps93
 go_upto_region 1 with fail
 rw[HW1.out]
 go_upto_region 3 with(first|(go_at_call 120;refine(NN P tb E _ _ HP.out).mono ?_;rintro _ wn h;have hz:=HB.out.size;rcases Parsed.part HB h with⟨pr,_,v,h0,rfl,hg,HP,HB⟩|⟨er,r,h0,rfl,HB⟩;obtain rfl:=hg;have l1:=Yi h0)|(go_at_call 121;refine(Sm P tb E _ B _ (HE.out.but HB.out hBP) hBP HP.out S n (by omega) HS.out).mono ?_;rintro _ wn h;have hz:=HB.out.size;rcases Parsed.part HB h with⟨t,_,v,h0,rfl,hg,HP,HB⟩|⟨er,r,h0,rfl,HB⟩;obtain⟨la,ln,lc,ka,kn,kc,rfl⟩:=hg.open;have HG:=hid (hg.mono hz);clear hg;have l2:=Hz hSl _ _ _ h0))
 any_goals (first|(obtain rfl:q= .bad er r:=HQ.out.symm.trans (by simp[Zg,PR.bind, *]);exact⟨rfl,rfl,(But.of HB1.out).trans HB.out⟩)|fail)
 obtain⟨W4,HW4,hl4,hn4,hsz,HB4,HP,HB,HC,HX4⟩:=box (cT t la ln lc ka kn kc) 28 HP HB (Nat.lt_trans hP hs1)
 rw[HW4.out]
 have HGT:=hid (HG.out.but (But.of (P:=P) HB4.out) (Nat.lt_trans hP hs1))
 clear HG HW4 HB4
 obtain⟨T6,hT6⟩:=exw wn.heap.size
 rw[hT6] at HX4 hl4 hn4 hsz |-
 clear hT6
 go_upto_region 4 with(go_at_call 52;refine(expC HP HC).mono ?_;rintro _ wn (⟨_,_,h0,rfl,l0,HP,HC⟩|⟨er,r,h0,rfl,HC⟩) <;> replace HB:=hid (HB.out.trans HC.out))
 any_goals (first|(obtain rfl:q= .bad er r:=HQ.out.symm.trans (by simp[Zg,PR.bind, *]);exact⟨rfl,rfl,(But.of HB1.out).trans HB.out⟩)|fail)
 have HSS:=hid (t6 HX4 hl4 hn4)
 refine wp_region_held_drew (S:=fun W=>W.cell? ⟨T6,0,none⟩=some (.int .i64 t.k)/\W.cell? ⟨T6,1,none⟩=some (.int .i64 t.p)/\W.cell? ⟨T6,2,none⟩=some (.string t.n)/\W.cell? ⟨T6,3,none⟩=some (.int .i64 t.s)/\W.cell? ⟨T6,4,none⟩=some (.slice la ln lc)/\W.cell? ⟨T6,5,none⟩=some (.slice ka kn kc)) (by kernel_rfl) (HSS.out _ HC.out.drew) (fun _=>?_)
 refine Vf 0 rfl (by intro w hSw;(try dsimp only at hSw);go_simp;try rfl) ?_
 simp only[setD,sS,sZ]
 refine Vf 1 rfl (by intro w hSw;(try dsimp only at hSw);go_simp;try rfl) ?_
 simp only[setD,sS,sZ]
 refine Vf 2 rfl (by intro w hSw;(try dsimp only at hSw);go_simp;try rfl) ?_
 simp only[setD,sS,sZ]
 refine Vf 3 rfl (by intro w hSw;(try dsimp only at hSw);go_simp;try rfl) ?_
 simp only[setD,sS,sZ]
 refine Jj 4 rfl rfl (by kernel_rfl) (fun K hK=>?_)
 have hK2:=hK.out
 clear hK
 simp only[setD,sS,sZ] at hK2 |-
 go_simp
 refine(HS.out _ _ (by omega) ((HE.out.but HB.out hBP).to bR.drew) (HP.out.to bR.drew)).mono ?_
 rintro _ wm h
 have hz:=HB.out.size
 rcases Parsed.part (hid (But.refl _ _)) h with⟨u,r,v,h0,rfl,hg,HP,HD⟩|⟨er,r,h0,rfl,HD⟩
 any_goals (first|(obtain rfl:q= .bad er r:=HQ.out.symm.trans (by simp[Zg,PR.bind, *]);dsimp only;exact⟨rfl,rfl,(But.of HB1.out).trans (HB.out.drew.trans HD.out)⟩)|fail)
 obtain⟨la',ln',lc',ka',kn',kc',rfl⟩:=hg.open
 dsimp only
 have HGU:=hid (hg.mono (show W1.heap.size<=_ from hz))
 replace HC:=hid (HC.out.drew.trans HD.out)
 replace HB:=hid (HB.out.drew.trans HD.out)
 refine hK2 _ _ (HSS.out wm HC.out) (fun _=>?_)
 clear hK2 K hg HD
 refine Jj 5 rfl rfl (by kernel_rfl) (fun K hK=>?_)
 have hK2:=hK.out
 clear hK
 simp only[setD,sS,sZ] at hK2 |-
 go_simp
 obtain⟨W5,HW5,hl5,hn5,hwm,HB5,HP,-,-,HX5⟩:=box #[.int .i64 t.k,.int .i64 t.p,.string t.n,.int .i64 t.s,.slice la ln lc,.slice ka kn kc,.int .i64 u.k,.int .i64 u.p,.string u.n,.int .i64 u.s,.slice la' ln' lc',.slice ka' kn' kc'] 28 HP HB (by omega)
 rw[HW5.out]
 refine hK2 _ _ (HSS.out W5 (HC.out.to HB5.out)) (fun _=>?_)
 clear hK2 K HW5
 refine Vf 6 rfl (by intro w hSw;(try dsimp only at hSw);go_simp;try rfl) ?_
 simp only[setD,sS,sZ]
 replace HC:=hid (HC.out.to HB5.out)
 replace HB:=hid (HB.out.to HB5.out)
 obtain⟨⟨⟨q0,q1,q2,q3,q4,q5⟩,z0,z1,z2,z3,z4,z5⟩,HX9⟩:=YX HX1 HB hs1 hP
 refine Jj 7 rfl rfl (by kernel_rfl) (fun K hK=>?_)
 have hK2:=hK.out
 clear hK
 simp only[setD] at hK2 |-
 go_simp
 have hT6:T6≠w.heap.size:=by omega
 obtain⟨W6,hW6⟩:=exw ((((((W5.setCell ⟨w.heap.size,0,none⟩ (.int .i64 k)).setCell ⟨w.heap.size,1,none⟩ (.int .i64 pr)).setCell ⟨w.heap.size,2,none⟩ tE).setCell ⟨w.heap.size,3,none⟩ iZ).setCell ⟨w.heap.size,4,none⟩ sN).setCell ⟨w.heap.size,5,none⟩ (.slice (some ⟨wm.heap.size,0,none⟩) 2 2))
 have hS6:=(c6 (show W6.heap[T6]? =some (.cells (cT t la ln lc ka kn kc) 28 (0,0)) by rw[<-hW6,oth1 _ _ _ hT6,oth1 _ _ _ hT6,oth1 _ _ _ hT6,oth1 _ _ _ hT6,oth1 _ _ _ hT6,oth1 _ _ _ hT6];exact(HC.out.block T6 hl4 hn4).trans HX4.out)).1
 rw[hW6]
 refine hK2 undef W6 hS6 (fun _=>?_)
 rw[<-hW6]
 clear hS6 hW6 hK2 K q0 q1 q2 q3 q4 q5 z0 z1 z2 z3 z4 z5
 refine wpAnyH_done (by kernel_rfl) ?_ _
 go_wp2_with fail
 obtain rfl:q= .ok (.mk k pr ⟨#[]⟩ 0 [] [t,u]) r:=HQ.out.symm.trans (by simp[Zg,PR.bind, *] <;> rfl)
 refine bodyPost_ret ?_ rfl (ZK (GTy.node (Nat.zero_le _) (Mz _ _) (Rr HX5.out ⟨hwm,hl5⟩ (HGT.out.but HC.out (Nat.lt_trans hP hs1)) (HGU.out.but (But.of (P:=P) HB5.out) (Nat.lt_trans hP hs1)))) hs1 hP htb HP HB1 HB)
 simp[results,Tryz.results93,go_sem,y6 HX9]
end Go.Proofs.YtmnbheplkidfaaaGreatDoor
namespace Go.Proofs.YtmnbheplkidfaaaGreatDoor
open Go.Lib (hid)
open Go.RowKit Go.Shelf
def GPr(b:Nat)(w':World)(p:Pr)(v:Value):Prop:=PrVal (fun k=>b<=k/\k<w'.heap.size) w' v p
def GPrs(b:Nat)(w':World)(ps:List Pr)(v:Value):Prop:=PrSl (fun k=>b<=k/\k<w'.heap.size) w' v ps
theorem PrVal.open{B:Nat->Prop}{w:World}{p:Pr}{v:Value}(h:PrVal B w v p):∃la ln lc aa an ac ta tn tc ua un uc ka kn kc,v=QW p (.slice la ln lc) (.slice aa an ac) (.slice ta tn tc) (.slice ua un uc) (.slice ka kn kc):=by
 obtain⟨lv,av,tl,tk,kv,rfl,_,hl,ha,⟨l2,k2,e2,_,hl2,hk2⟩,hk⟩:=h
 simp only[Value.agg.injEq,Array.mk.injEq,List.cons.injEq,and_true,true_and] at e2
 obtain⟨rfl,rfl⟩:=e2
 obtain⟨la,ln,lc,rfl,_⟩:=hl.open
 obtain⟨aa,an,ac,rfl,_⟩:=ha.open
 obtain⟨ta,tn,tc,rfl,_⟩:=hl2.open
 obtain⟨ua,un,uc,rfl,_⟩:=hk2.open
 obtain⟨ka,kn,kc,rfl,_⟩:=hk.open
 exact⟨_,_,_,_,_,_,_,_,_,_,_,_,_,_,_,rfl⟩
theorem GPr.open{b:Nat}{w':World}{p:Pr}{v:Value}(h:GPr b w' p v):∃la ln lc aa an ac ta tn tc ua un uc ka kn kc,v=QW p (.slice la ln lc) (.slice aa an ac) (.slice ta tn tc) (.slice ua un uc) (.slice ka kn kc):=PrVal.open h
theorem GPr.but{b P:Nat}{w w':World}{p:Pr}{v:Value}(h:GPr b w p v)(hb:But P w w')(hP:P<b):GPr b w' p v:=
 (PrVal.keep (hb.keeps (fun k hk=>⟨hk.2,by omega⟩)) h).mono (fun k hk=>⟨hk.1,lL hk.2 hb.size⟩)
theorem GPr.mono{b c:Nat}{w:World}{p:Pr}{v:Value}(h:GPr b w p v)(hc:c<=b):GPr c w p v:=PrVal.mono (fun _ hk=>⟨lT hc hk.1,hk.2⟩) h
theorem Fr{B:Nat->Prop}{W:World}{b:Nat}{T:TypeId}{fr:Nat×Nat}{p:Pr}{la:Option Addr}{ln lc:Nat}{aa:Option Addr}{an ac:Nat}{ta:Option Addr}{tn tc:Nat}{ua:Option Addr}{un uc:Nat}{ka:Option Addr}{kn kc:Nat}
 (h:W.heap[b]? =some (.cells (gP p la ln lc aa an ac ta tn tc ua un uc ka kn kc) T fr)) (hb:B b) (hp:PrVal B W (QW p (.slice la ln lc) (.slice aa an ac) (.slice ta tn tc) (.slice ua un uc) (.slice ka kn kc)) p):PrSl B W (.slice (some ⟨b,0,none⟩) 1 1) [p]:=by
 have cell:∀i v,((gP p la ln lc aa an ac ta tn tc ua un uc ka kn kc):Array Value).toList[i]? =some v->W.cell? ⟨b,i,none⟩=some v:=by
  intro i v hi
  simp only[World.cell?,h]
  simpa using hi
 have a1:PrAt B W p b 0:=UI hb (cell 0 _ rfl) (cell 1 _ rfl) (cell 2 _ rfl) (cell 3 _ rfl) (cell 4 _ rfl) (cell 5 _ rfl) (cell 6 _ rfl) (cell 7 _ rfl) (cell 8 _ rfl) (cell 9 _ rfl) (cell 10 _ rfl) (cell 11 _ rfl) hp
 exact⟨.inr ⟨b,0,1,rfl,hb,by simp only[PrsAt];exact⟨a1,trivial⟩⟩,by simp[maxLen]⟩
def KQ(P tb:Nat)(E:Int)(B:Nat)(S:List Tk->PR Pr)(n:Nat):Prop:=∀(ts:List Tk) (W:World),ts.length<n->Env B W->PaIs P tb E ts W->Calls Tryz.prog 91 #[.pointer (some ⟨P,0,none⟩)] W (Parsed P tb E W (S ts) (GPr W.heap.size))
theorem Vr(P tb:Nat)(E:Int)(ts:List Tk)(B:Nat)(w:World)(he:Env B w)(hBP:B<=P)(h:PaIs P tb E ts w)(S:List Tk->PR Pr)(n:Nat)(hn:ts.length<n)(hS:KQ P tb E B S n):
 Calls Tryz.prog 139 #[.pointer (some ⟨P,0,none⟩)] w (Parsed P tb E w (JG S ts) (fun W p v=>GPrs w.heap.size W [p] v)):=by
 have hP:P<w.heap.size:=h.lt
 have HP:=hid h
 have HB:Hid (But P w w):=hid (But.refl _ _)
 have HE:=hid he
 have HS:=hid hS
 clear he h hS
 obtain⟨q,HQ⟩:=exq (JG S ts)
 rw[HQ.out]
 go_enter Tryz.func139,Tryz.ntmps139
 go_wp2_with (first|(go_at_call 52;refine(expC HP HB).mono ?_;rintro _ wn (⟨_,_,h0,rfl,l0,HP,HB⟩|⟨er,r,h0,rfl,HB⟩))|(go_at_call 91;refine(HS.out _ _ (by omega) (HE.out.but HB.out hBP) HP.out).mono ?_;rintro _ wn h;have hz:=HB.out.size;rcases Parsed.part HB h with⟨p,r,v,h0,rfl,hg,HP,HB⟩|⟨er,r,h0,rfl,HB⟩;obtain⟨la,ln,lc,aa,an,ac,ta,tn,tc,ua,un,uc,ka,kn,kc,rfl⟩:=hg.open;have HG:=hid (hg.mono hz);clear hg))
 any_goals (first|(obtain rfl:q= .bad er r:=HQ.out.symm.trans (by simp[JG,PR.bind, *]);exact⟨rfl,rfl,HB.out⟩)|fail)
 obtain⟨W5,HW5,hl5,hn5,hwn,HB5,HP,HB,-,HX5⟩:=box (gP p la ln lc aa an ac ta tn tc ua un uc ka kn kc) 31 HP HB hP
 rw[HW5.out]
 obtain rfl:q= .ok p r:=HQ.out.symm.trans (by simp[JG,PR.bind, *])
 exact bodyPost_ret (v:= .slice (some ⟨wn.heap.size,0,none⟩) 1 1) (by simp[results,Tryz.results139,go_sem]) rfl ⟨⟨_,rfl,Fr HX5.out ⟨hwn,hl5⟩ (HG.out.but (But.of (P:=P) HB5.out) hP)⟩,HP.out,HB.out⟩
theorem c12p{w:World}{X:Nat}{T:TypeId}{v0 v1 v2 v3 v4 v5 v6 v7 v8 v9 v10 v11:Value}(h:w.heap[X]? =some (.cells #[v0,v1,v2,v3,v4,v5,v6,v7,v8,v9,v10,v11] T (0,0))):(w.cell? ⟨X,0,none⟩=some v0/\w.cell? ⟨X,1,none⟩=some v1/\w.cell? ⟨X,2,none⟩=some v2/\w.cell? ⟨X,3,none⟩=some v3/\w.cell? ⟨X,4,none⟩=some v4/\w.cell? ⟨X,5,none⟩=some v5/\w.cell? ⟨X,6,none⟩=some v6/\w.cell? ⟨X,7,none⟩=some v7/\w.cell? ⟨X,8,none⟩=some v8/\w.cell? ⟨X,9,none⟩=some v9/\w.cell? ⟨X,10,none⟩=some v10/\w.cell? ⟨X,11,none⟩=some v11)/\w.frozen? ⟨X,0,none⟩=false/\w.frozen? ⟨X,1,none⟩=false/\w.frozen? ⟨X,2,none⟩=false/\w.frozen? ⟨X,3,none⟩=false/\w.frozen? ⟨X,4,none⟩=false/\w.frozen? ⟨X,5,none⟩=false/\w.frozen? ⟨X,6,none⟩=false/\w.frozen? ⟨X,7,none⟩=false/\w.frozen? ⟨X,8,none⟩=false/\w.frozen? ⟨X,9,none⟩=false/\w.frozen? ⟨X,10,none⟩=false/\w.frozen? ⟨X,11,none⟩=false:=by
 refine⟨⟨?_,?_,?_,?_,?_,?_,?_,?_,?_,?_,?_,?_⟩,Qc h 0,Qc h 1,Qc h 2,Qc h 3,Qc h 4,Qc h 5,Qc h 6,Qc h 7,Qc h 8,Qc h 9,Qc h 10,Qc h 11⟩ <;> simp[World.cell?,h]
abbrev put12(w:World)(X:Nat)(v0 v1 v2 v3 v4 v5 v6 v7 v8 v9 v10 v11:Value):World:=((((((((((((w.setCell ⟨X,0,none⟩ v0).setCell ⟨X,1,none⟩ v1).setCell ⟨X,2,none⟩ v2).setCell ⟨X,3,none⟩ v3).setCell ⟨X,4,none⟩ v4).setCell ⟨X,5,none⟩ v5).setCell ⟨X,6,none⟩ v6).setCell ⟨X,7,none⟩ v7).setCell ⟨X,8,none⟩ v8).setCell ⟨X,9,none⟩ v9).setCell ⟨X,10,none⟩ v10).setCell ⟨X,11,none⟩ v11)
theorem JZ{w:World}{X:Nat}{T:TypeId}{v0 v1 v2 v3 v4 v5 v6 v7 v8 v9 v10 v11:Value}(h:w.heap[X]? =some (.cells #[v0,v1,v2,v3,v4,v5,v6,v7,v8,v9,v10,v11] T (0,0)))(u0 u1 u2 u3 u4 u5 u6 u7 u8 u9 u10 u11:Value):(put12 w X u0 u1 u2 u3 u4 u5 u6 u7 u8 u9 u10 u11).heap[X]? =some (.cells #[u0,u1,u2,u3,u4,u5,u6,u7,u8,u9,u10,u11] T (0,0)):=by
 have h0:_ =some (Obj.cells #[u0,v1,v2,v3,v4,v5,v6,v7,v8,v9,v10,v11] T (0,0)):=Qd h 0 u0
 clear h
 have h1:_ =some (Obj.cells #[u0,u1,v2,v3,v4,v5,v6,v7,v8,v9,v10,v11] T (0,0)):=Qd h0 1 u1
 clear h0
 have h2:_ =some (Obj.cells #[u0,u1,u2,v3,v4,v5,v6,v7,v8,v9,v10,v11] T (0,0)):=Qd h1 2 u2
 clear h1
 have h3:_ =some (Obj.cells #[u0,u1,u2,u3,v4,v5,v6,v7,v8,v9,v10,v11] T (0,0)):=Qd h2 3 u3
 clear h2
 have h4:_ =some (Obj.cells #[u0,u1,u2,u3,u4,v5,v6,v7,v8,v9,v10,v11] T (0,0)):=Qd h3 4 u4
 clear h3
 have h5:_ =some (Obj.cells #[u0,u1,u2,u3,u4,u5,v6,v7,v8,v9,v10,v11] T (0,0)):=Qd h4 5 u5
 clear h4
 have h6:_ =some (Obj.cells #[u0,u1,u2,u3,u4,u5,u6,v7,v8,v9,v10,v11] T (0,0)):=Qd h5 6 u6
 clear h5
 have h7:_ =some (Obj.cells #[u0,u1,u2,u3,u4,u5,u6,u7,v8,v9,v10,v11] T (0,0)):=Qd h6 7 u7
 clear h6
 have h8:_ =some (Obj.cells #[u0,u1,u2,u3,u4,u5,u6,u7,u8,v9,v10,v11] T (0,0)):=Qd h7 8 u8
 clear h7
 have h9:_ =some (Obj.cells #[u0,u1,u2,u3,u4,u5,u6,u7,u8,u9,v10,v11] T (0,0)):=Qd h8 9 u9
 clear h8
 have h10:_ =some (Obj.cells #[u0,u1,u2,u3,u4,u5,u6,u7,u8,u9,u10,v11] T (0,0)):=Qd h9 10 u10
 clear h9
 have h11:_ =some (Obj.cells #[u0,u1,u2,u3,u4,u5,u6,u7,u8,u9,u10,u11] T (0,0)):=Qd h10 11 u11
 clear h10
 exact h11
theorem QN{w:World}{X k:Nat}(h:k≠X)(v0 v1 v2 v3 v4 v5 v6 v7 v8 v9 v10 v11:Value):(put12 w X v0 v1 v2 v3 v4 v5 v6 v7 v8 v9 v10 v11).heap[k]? =w.heap[k]? :=by
 rw[oth1 _ _ _ h,oth1 _ _ _ h,oth1 _ _ _ h,oth1 _ _ _ h,oth1 _ _ _ h,oth1 _ _ _ h,oth1 _ _ _ h,oth1 _ _ _ h,oth1 _ _ _ h,oth1 _ _ _ h,oth1 _ _ _ h,oth1 _ _ _ h]
theorem QF(w:World)(X:Nat)(v0 v1 v2 v3 v4 v5 v6 v7 v8 v9 v10 v11:Value):(put12 w X v0 v1 v2 v3 v4 v5 v6 v7 v8 v9 v10 v11).heap.size=w.heap.size:=by simp[put12,World.setCell]
theorem But.put12{P X:Nat}{w w':World}(h:But P w w')(hX:w.heap.size<=X)(v0 v1 v2 v3 v4 v5 v6 v7 v8 v9 v10 v11:Value):But P w (put12 w' X v0 v1 v2 v3 v4 v5 v6 v7 v8 v9 v10 v11):=((((((((((((h).setX hX 0 v0).setX hX 1 v1).setX hX 2 v2).setX hX 3 v3).setX hX 4 v4).setX hX 5 v5).setX hX 6 v6).setX hX 7 v7).setX hX 8 v8).setX hX 9 v9).setX hX 10 v10).setX hX 11 v11
theorem GPr.node{b:Nat}{w:World}{k:Int}{c x:ByteArray}{ls:List ByteArray}{vs:List Vl}{t:Ty}{ps:List Pr}{lv av tl tk kv:Value}(hc:c.size<=maxLen)(hx:x.size<=maxLen)(hl:StrSl (fun j=>b<=j/\j<w.heap.size) w lv ls)(ha:VlSl (fun j=>b<=j/\j<w.heap.size) w av vs)(ht:TyVal (fun j=>b<=j/\j<w.heap.size) w (.agg #[.int .i64 t.k,.int .i64 t.p,.string t.n,.int .i64 t.s,tl,tk]) t)(hk:PrSl (fun j=>b<=j/\j<w.heap.size) w kv ps):
 GPr b w (.mk k c x ls vs t ps) (.agg #[.int .i64 k,.string c,.string x,lv,av,.int .i64 t.k,.int .i64 t.p,.string t.n,.int .i64 t.s,tl,tk,kv]):=⟨_,_,_,_,_,rfl,⟨hc,hx⟩,hl,ha,ht,hk⟩
theorem GPr.put12{c X:Nat}{w:World}{p:Pr}{v:Value}(h:GPr c w p v)(hX:X<c)(v0 v1 v2 v3 v4 v5 v6 v7 v8 v9 v10 v11:Value):GPr c (put12 w X v0 v1 v2 v3 v4 v5 v6 v7 v8 v9 v10 v11) p v:=
 (PrVal.keep (fun k o hk ho _=>(QN (show k≠X from fun e=>by have:=hk.1;omega) v0 v1 v2 v3 v4 v5 v6 v7 v8 v9 v10 v11).trans ho) h).mono (fun _ hk=>⟨hk.1,by rw[QF];exact hk.2⟩)
theorem GPrs.mono{b c:Nat}{w:World}{ps:List Pr}{v:Value}(h:GPrs b w ps v)(hc:c<=b):GPrs c w ps v:=PrSl.mono (fun _ hk=>⟨lT hc hk.1,hk.2⟩) h
theorem JK(B:Nat->Prop)(w:World):VlSl B w sN []:=⟨.inl ⟨⟨_,_,rfl⟩,rfl⟩,Nat.zero_le _,fun s hs=>by cases hs⟩
theorem Jv(B:Nat->Prop)(w:World):StrSl B w sN []:=⟨.inl ⟨⟨_,_,rfl⟩,rfl⟩,Nat.zero_le _,fun s hs=>by cases hs⟩
theorem YF(b:Nat)(w:World):GTy b w zT (.agg z6):=GTy.leaf b w 0 0 0 ⟨#[]⟩ (Nat.zero_le _)
abbrev putz12(w:World)(X:Nat):World:=put12 w X iZ tE tE sN sN iZ iZ tE iZ sN sN sN
theorem LV{w:World}{X:Nat}{T:TypeId}{v0 v1 v2 v3 v4 v5 v6 v7 v8 v9 v10 v11:Value}(h:w.heap[X]? =some (.cells #[v0,v1,v2,v3,v4,v5,v6,v7,v8,v9,v10,v11] T (0,0))):(putz12 w X).heap[X]? =some (.cells z12 T (0,0)):=JZ h iZ tE tE sN sN iZ iZ tE iZ sN sN sN
theorem Dt{w:World}{X k:Nat}(h:k≠X):(putz12 w X).heap[k]? =w.heap[k]? :=QN h iZ tE tE sN sN iZ iZ tE iZ sN sN sN
theorem Gu(w:World)(X:Nat):(putz12 w X).heap.size=w.heap.size:=QF _ _ iZ tE tE sN sN iZ iZ tE iZ sN sN sN
theorem ZZ{P X:Nat}{W1 W:World}{T:TypeId}{v0 v1 v2 v3 v4 v5 v6 v7 v8 v9 v10 v11:Value}(HX1:Hid (W1.heap[X]? =some (.cells #[v0,v1,v2,v3,v4,v5,v6,v7,v8,v9,v10,v11] T (0,0))))(HB:Hid (But P W1 W))(hs1:X<W1.heap.size)(hP:P<X):((W.cell? ⟨X,0,none⟩=some v0/\W.cell? ⟨X,1,none⟩=some v1/\W.cell? ⟨X,2,none⟩=some v2/\W.cell? ⟨X,3,none⟩=some v3/\W.cell? ⟨X,4,none⟩=some v4/\W.cell? ⟨X,5,none⟩=some v5/\W.cell? ⟨X,6,none⟩=some v6/\W.cell? ⟨X,7,none⟩=some v7/\W.cell? ⟨X,8,none⟩=some v8/\W.cell? ⟨X,9,none⟩=some v9/\W.cell? ⟨X,10,none⟩=some v10/\W.cell? ⟨X,11,none⟩=some v11)/\W.frozen? ⟨X,0,none⟩=false/\W.frozen? ⟨X,1,none⟩=false/\W.frozen? ⟨X,2,none⟩=false/\W.frozen? ⟨X,3,none⟩=false/\W.frozen? ⟨X,4,none⟩=false/\W.frozen? ⟨X,5,none⟩=false/\W.frozen? ⟨X,6,none⟩=false/\W.frozen? ⟨X,7,none⟩=false/\W.frozen? ⟨X,8,none⟩=false/\W.frozen? ⟨X,9,none⟩=false/\W.frozen? ⟨X,10,none⟩=false/\W.frozen? ⟨X,11,none⟩=false)/\Hid (W.heap[X]? =some (.cells #[v0,v1,v2,v3,v4,v5,v6,v7,v8,v9,v10,v11] T (0,0))):=
 have h:=(HB.out.block X hs1 (Nat.ne_of_gt hP)).trans HX1.out
 ⟨c12p h,hid h⟩
theorem y12{w:World}{X:Nat}{T:TypeId}{v0 v1 v2 v3 v4 v5 v6 v7 v8 v9 v10 v11:Value}(h:Hid (w.heap[X]? =some (.cells #[v0,v1,v2,v3,v4,v5,v6,v7,v8,v9,v10,v11] T (0,0))))(u0 u1 u2 u3 u4 u5 u6 u7 u8 u9 u10 u11:Value):(put12 w X u0 u1 u2 u3 u4 u5 u6 u7 u8 u9 u10 u11).cell? ⟨X,0,none⟩=some u0/\(put12 w X u0 u1 u2 u3 u4 u5 u6 u7 u8 u9 u10 u11).cell? ⟨X,1,none⟩=some u1/\(put12 w X u0 u1 u2 u3 u4 u5 u6 u7 u8 u9 u10 u11).cell? ⟨X,2,none⟩=some u2/\(put12 w X u0 u1 u2 u3 u4 u5 u6 u7 u8 u9 u10 u11).cell? ⟨X,3,none⟩=some u3/\(put12 w X u0 u1 u2 u3 u4 u5 u6 u7 u8 u9 u10 u11).cell? ⟨X,4,none⟩=some u4/\(put12 w X u0 u1 u2 u3 u4 u5 u6 u7 u8 u9 u10 u11).cell? ⟨X,5,none⟩=some u5/\(put12 w X u0 u1 u2 u3 u4 u5 u6 u7 u8 u9 u10 u11).cell? ⟨X,6,none⟩=some u6/\(put12 w X u0 u1 u2 u3 u4 u5 u6 u7 u8 u9 u10 u11).cell? ⟨X,7,none⟩=some u7/\(put12 w X u0 u1 u2 u3 u4 u5 u6 u7 u8 u9 u10 u11).cell? ⟨X,8,none⟩=some u8/\(put12 w X u0 u1 u2 u3 u4 u5 u6 u7 u8 u9 u10 u11).cell? ⟨X,9,none⟩=some u9/\(put12 w X u0 u1 u2 u3 u4 u5 u6 u7 u8 u9 u10 u11).cell? ⟨X,10,none⟩=some u10/\(put12 w X u0 u1 u2 u3 u4 u5 u6 u7 u8 u9 u10 u11).cell? ⟨X,11,none⟩=some u11:=(c12p (JZ h.out u0 u1 u2 u3 u4 u5 u6 u7 u8 u9 u10 u11)).1
theorem Zn{P tb:Nat}{E:Int}{w W1 W:World}{t:Pr}{r:List Tk}{v0 v1 v2 v3 v4 v5 v6 v7 v8 v9 v10 v11:Value}(hg:GPr W1.heap.size W t (.agg #[v0,v1,v2,v3,v4,v5,v6,v7,v8,v9,v10,v11]))(hs1:w.heap.size<W1.heap.size)(hP:P<w.heap.size)(htb:tb≠w.heap.size)(HP:Hid (PaIs P tb E r W))(HB1:Hid (Below w.heap.size w W1))(HB:Hid (But P W1 W)):
 Parsed P tb E w (.ok t r) (GPr w.heap.size) (.returned (.agg #[v0,v1,v2,v3,v4,v5,v6,v7,v8,v9,v10,v11])) (put12 W w.heap.size v0 v1 v2 v3 v4 v5 v6 v7 v8 v9 v10 v11):=
 ⟨⟨_,rfl,(hg.put12 hs1 v0 v1 v2 v3 v4 v5 v6 v7 v8 v9 v10 v11).mono (Nat.le_of_lt hs1)⟩,HP.out.oth (X:=w.heap.size) (fun _ hj=>QN hj v0 v1 v2 v3 v4 v5 v6 v7 v8 v9 v10 v11) (QF _ _ v0 v1 v2 v3 v4 v5 v6 v7 v8 v9 v10 v11) (Nat.ne_of_gt hP) htb,((But.of HB1.out).trans HB.out).put12 lR v0 v1 v2 v3 v4 v5 v6 v7 v8 v9 v10 v11⟩
theorem Tz(P tb:Nat)(E:Int)(ts:List Tk)(B:Nat)(w:World)(he:Env B w)(hBP:B<=P)(h:PaIs P tb E ts w)(S:List Tk->PR Pr)(n:Nat)(hn:ts.length<n)(hS:KQ P tb E B S n)(c:ByteArray)(hcz:c.size<=maxLen):
 Calls Tryz.prog 138 #[.pointer (some ⟨P,0,none⟩),.string c] w (Parsed P tb E w (Yh Qb S c ts) (GPr w.heap.size)):=by
 obtain⟨W1,HW1,hs1,hP,htb,HTB,HP,HB,HB1,HX1,HE⟩:=pro (cN 0 ⟨#[]⟩ ⟨#[]⟩ sN sN sN) 31 he h
 clear he h
 have HS:=hid hS
 clear hS
 obtain⟨q,HQ⟩:=exq (Yh Qb S c ts)
 rw[HQ.out]
 go_enter Tryz.func138,Tryz.ntmps138
 go_upto_region 1 with fail
 rw[HW1.out]
 go_wp2_with (first|(go_at_call 52;refine(expC HP HB).mono ?_;rintro _ wn (⟨_,_,h0,rfl,l0,HP,HB⟩|⟨er,r,h0,rfl,HB⟩))|(go_at_call 78;refine(namC HP HB (HE.out.but HB.out hBP)).mono ?_;rintro _ wn (⟨nm,_,hq,rfl,l0,hnz,HP,HB⟩|⟨er,r,hq,rfl,HB⟩))|(go_at_call 139;refine(Vr P tb E _ B _ (HE.out.but HB.out hBP) hBP HP.out S n (by omega) HS.out).mono ?_;rintro _ wn h;have hz:=HB.out.size;rcases Parsed.part HB h with⟨p,r,v,h0,rfl,hg,HP,HB⟩|⟨er,r,h0,rfl,HB⟩;obtain⟨ka,kn,kc,rfl,-⟩:=PrSl.open hg;have HG:=hid (GPrs.mono hg hz);clear hg hz;obtain⟨⟨⟨q0,q1,q2,q3,q4,q5,q6,q7,q8,q9,q10,q11⟩,z0,z1,z2,z3,z4,z5,z6,z7,z8,z9,z10,z11⟩,HX9⟩:=ZZ HX1 HB hs1 hP))
 any_goals (first|(obtain rfl:q= .bad er r:=HQ.out.symm.trans (by simp[Yh,PR.bind, *]);exact⟨rfl,rfl,(But.of HB1.out).trans HB.out⟩)|fail)
 obtain rfl:q= .ok (.mk 3 c nm [] [] zT [p]) r:=HQ.out.symm.trans (by simp[Yh,PR.bind, *] <;> rfl)
 refine bodyPost_ret ?_ rfl (Zn (GPr.node (t:=zT) hcz hnz (Jv _ _) (JK _ _) (YF _ _) HG.out) hs1 hP htb HP HB1 HB)
 simp[results,Tryz.results138,go_sem,y12 HX9]
theorem c7p{w:World}{X:Nat}{T:TypeId}{v0 v1 v2 v3 v4 v5 v6:Value}(h:w.heap[X]? =some (.cells #[v0,v1,v2,v3,v4,v5,v6] T (0,0))):(w.cell? ⟨X,0,none⟩=some v0/\w.cell? ⟨X,1,none⟩=some v1/\w.cell? ⟨X,2,none⟩=some v2/\w.cell? ⟨X,3,none⟩=some v3/\w.cell? ⟨X,4,none⟩=some v4/\w.cell? ⟨X,5,none⟩=some v5/\w.cell? ⟨X,6,none⟩=some v6)/\w.frozen? ⟨X,0,none⟩=false/\w.frozen? ⟨X,1,none⟩=false/\w.frozen? ⟨X,2,none⟩=false/\w.frozen? ⟨X,3,none⟩=false/\w.frozen? ⟨X,4,none⟩=false/\w.frozen? ⟨X,5,none⟩=false/\w.frozen? ⟨X,6,none⟩=false:=by
 refine⟨⟨?_,?_,?_,?_,?_,?_,?_⟩,Qc h 0,Qc h 1,Qc h 2,Qc h 3,Qc h 4,Qc h 5,Qc h 6⟩ <;> simp[World.cell?,h]
abbrev put7(w:World)(X:Nat)(v0 v1 v2 v3 v4 v5 v6:Value):World:=(((((((w.setCell ⟨X,0,none⟩ v0).setCell ⟨X,1,none⟩ v1).setCell ⟨X,2,none⟩ v2).setCell ⟨X,3,none⟩ v3).setCell ⟨X,4,none⟩ v4).setCell ⟨X,5,none⟩ v5).setCell ⟨X,6,none⟩ v6)
theorem fill7{w:World}{X:Nat}{T:TypeId}{v0 v1 v2 v3 v4 v5 v6:Value}(h:w.heap[X]? =some (.cells #[v0,v1,v2,v3,v4,v5,v6] T (0,0)))(u0 u1 u2 u3 u4 u5 u6:Value):(put7 w X u0 u1 u2 u3 u4 u5 u6).heap[X]? =some (.cells #[u0,u1,u2,u3,u4,u5,u6] T (0,0)):=by
 have h0:_ =some (Obj.cells #[u0,v1,v2,v3,v4,v5,v6] T (0,0)):=Qd h 0 u0
 clear h
 have h1:_ =some (Obj.cells #[u0,u1,v2,v3,v4,v5,v6] T (0,0)):=Qd h0 1 u1
 clear h0
 have h2:_ =some (Obj.cells #[u0,u1,u2,v3,v4,v5,v6] T (0,0)):=Qd h1 2 u2
 clear h1
 have h3:_ =some (Obj.cells #[u0,u1,u2,u3,v4,v5,v6] T (0,0)):=Qd h2 3 u3
 clear h2
 have h4:_ =some (Obj.cells #[u0,u1,u2,u3,u4,v5,v6] T (0,0)):=Qd h3 4 u4
 clear h3
 have h5:_ =some (Obj.cells #[u0,u1,u2,u3,u4,u5,v6] T (0,0)):=Qd h4 5 u5
 clear h4
 have h6:_ =some (Obj.cells #[u0,u1,u2,u3,u4,u5,u6] T (0,0)):=Qd h5 6 u6
 clear h5
 exact h6
theorem Fp{w:World}{X k:Nat}(h:k≠X)(v0 v1 v2 v3 v4 v5 v6:Value):(put7 w X v0 v1 v2 v3 v4 v5 v6).heap[k]? =w.heap[k]? :=by
 rw[oth1 _ _ _ h,oth1 _ _ _ h,oth1 _ _ _ h,oth1 _ _ _ h,oth1 _ _ _ h,oth1 _ _ _ h,oth1 _ _ _ h]
theorem NI(w:World)(X:Nat)(v0 v1 v2 v3 v4 v5 v6:Value):(put7 w X v0 v1 v2 v3 v4 v5 v6).heap.size=w.heap.size:=by simp[put7,World.setCell]
theorem But.put7{P X:Nat}{w w':World}(h:But P w w')(hX:w.heap.size<=X)(v0 v1 v2 v3 v4 v5 v6:Value):But P w (put7 w' X v0 v1 v2 v3 v4 v5 v6):=(((((((h).setX hX 0 v0).setX hX 1 v1).setX hX 2 v2).setX hX 3 v3).setX hX 4 v4).setX hX 5 v5).setX hX 6 v6
def GPm(b:Nat)(w:World)(a:Pm)(v:Value):Prop:=∃tl tk,v= .agg #[.string a.n,.int .i64 a.t.k,.int .i64 a.t.p,.string a.t.n,.int .i64 a.t.s,tl,tk]/\a.n.size<=maxLen/\GTy b w a.t (.agg #[.int .i64 a.t.k,.int .i64 a.t.p,.string a.t.n,.int .i64 a.t.s,tl,tk])
theorem GTy.put7{c X:Nat}{w:World}{t:Ty}{v:Value}(h:GTy c w t v)(hX:X<c)(v0 v1 v2 v3 v4 v5 v6:Value):GTy c (put7 w X v0 v1 v2 v3 v4 v5 v6) t v:=
 (TyVal.keep (fun k o hk ho _=>(Fp (show k≠X from fun e=>by have:=hk.1;omega) v0 v1 v2 v3 v4 v5 v6).trans ho) h).mono (fun _ hk=>⟨hk.1,by rw[NI];exact hk.2⟩)
def Zu(S:List Tk->PR Ty)(ts:List Tk):PR Pm:=(Qk Qb ts).bind fun n r=>(need QB r).bind fun _ r=>(Js S r).bind fun t r=> .ok ⟨n,t⟩ r
theorem nine7{P X:Nat}{W1 W:World}{T:TypeId}{v0 v1 v2 v3 v4 v5 v6:Value}(HX1:Hid (W1.heap[X]? =some (.cells #[v0,v1,v2,v3,v4,v5,v6] T (0,0))))(HB:Hid (But P W1 W))(hs1:X<W1.heap.size)(hP:P<X):((W.cell? ⟨X,0,none⟩=some v0/\W.cell? ⟨X,1,none⟩=some v1/\W.cell? ⟨X,2,none⟩=some v2/\W.cell? ⟨X,3,none⟩=some v3/\W.cell? ⟨X,4,none⟩=some v4/\W.cell? ⟨X,5,none⟩=some v5/\W.cell? ⟨X,6,none⟩=some v6)/\W.frozen? ⟨X,0,none⟩=false/\W.frozen? ⟨X,1,none⟩=false/\W.frozen? ⟨X,2,none⟩=false/\W.frozen? ⟨X,3,none⟩=false/\W.frozen? ⟨X,4,none⟩=false/\W.frozen? ⟨X,5,none⟩=false/\W.frozen? ⟨X,6,none⟩=false)/\Hid (W.heap[X]? =some (.cells #[v0,v1,v2,v3,v4,v5,v6] T (0,0))):=
 have h:=(HB.out.block X hs1 (Nat.ne_of_gt hP)).trans HX1.out
 ⟨c7p h,hid h⟩
theorem y7{w:World}{X:Nat}{T:TypeId}{v0 v1 v2 v3 v4 v5 v6:Value}(h:Hid (w.heap[X]? =some (.cells #[v0,v1,v2,v3,v4,v5,v6] T (0,0))))(u0 u1 u2 u3 u4 u5 u6:Value):(put7 w X u0 u1 u2 u3 u4 u5 u6).cell? ⟨X,0,none⟩=some u0/\(put7 w X u0 u1 u2 u3 u4 u5 u6).cell? ⟨X,1,none⟩=some u1/\(put7 w X u0 u1 u2 u3 u4 u5 u6).cell? ⟨X,2,none⟩=some u2/\(put7 w X u0 u1 u2 u3 u4 u5 u6).cell? ⟨X,3,none⟩=some u3/\(put7 w X u0 u1 u2 u3 u4 u5 u6).cell? ⟨X,4,none⟩=some u4/\(put7 w X u0 u1 u2 u3 u4 u5 u6).cell? ⟨X,5,none⟩=some u5/\(put7 w X u0 u1 u2 u3 u4 u5 u6).cell? ⟨X,6,none⟩=some u6:=(c7p (fill7 h.out u0 u1 u2 u3 u4 u5 u6)).1
theorem DF(P tb:Nat)(E:Int)(ts:List Tk)(B:Nat)(w:World)(he:Env B w)(hBP:B<=P)(h:PaIs P tb E ts w)(S:List Tk->PR Ty)(n:Nat)(hn:ts.length<=n)(hS:SessOK P tb E B S n):
 Calls Tryz.prog 80 #[.pointer (some ⟨P,0,none⟩)] w (Parsed P tb E w (Zu S ts) (GPm w.heap.size)):=by
 obtain⟨W1,HW1,hs1,hP,htb,HTB,HP,HB,HB1,HX1,HE⟩:=pro #[.string ⟨#[]⟩,.int .i64 0,.int .i64 0,.string ⟨#[]⟩,.int .i64 0,.slice none 0 0,.slice none 0 0] 63 he h
 clear he h
 have HS:=hid hS
 clear hS
 obtain⟨q,HQ⟩:=exq (Zu S ts)
 rw[HQ.out]
 go_enter Tryz.func80,Tryz.ntmps80
 go_upto_region 1 with fail
 rw[HW1.out]
 go_wp2_with (first|(go_at_call 78;refine(namC HP HB (HE.out.but HB.out hBP)).mono ?_;rintro _ wn (⟨nm,_,h0,rfl,l0,hnz,HP,HB⟩|⟨er,r,h0,rfl,HB⟩))|(go_at_call 52;refine(expC HP HB).mono ?_;rintro _ wn (⟨_,_,h0,rfl,l0,HP,HB⟩|⟨er,r,h0,rfl,HB⟩))|(go_at_call 36;refine(MS P tb E _ B _ (HE.out.but HB.out hBP) hBP HP.out S n (by omega) HS.out).mono ?_;rintro _ wn h;have hz:=HB.out.size;rcases Parsed.part HB h with⟨t,r,v,h0,rfl,hg,HP,HB⟩|⟨er,r,h0,rfl,HB⟩;obtain⟨la,ln,lc,ka,kn,kc,rfl⟩:=hg.open;have HG:=hid (hg.mono hz);clear hg;obtain⟨⟨⟨q0,q1,q2,q3,q4,q5,q6⟩,z0,z1,z2,z3,z4,z5,z6⟩,HX9⟩:=nine7 HX1 HB hs1 hP))
 any_goals (first|(obtain rfl:q= .bad er r:=HQ.out.symm.trans (by simp[Zu,PR.bind, *]);exact⟨rfl,rfl,(But.of HB1.out).trans HB.out⟩)|fail)
 obtain rfl:q= .ok (⟨nm,t⟩) r:=HQ.out.symm.trans (by simp[Zu,PR.bind, *] <;> rfl)
 refine bodyPost_ret (v:= .agg #[.string nm,.int .i64 t.k,.int .i64 t.p,.string t.n,.int .i64 t.s,.slice la ln lc,.slice ka kn kc]) ?_ rfl ⟨⟨_,rfl,⟨_,_,rfl,hnz,(HG.out.put7 hs1 (.string nm) (.int .i64 t.k) (.int .i64 t.p) (.string t.n) (.int .i64 t.s) (.slice la ln lc) (.slice ka kn kc)).mono (Nat.le_of_lt hs1)⟩⟩,HP.out.oth (X:=w.heap.size) (fun _ hj=>Fp hj (.string nm) (.int .i64 t.k) (.int .i64 t.p) (.string t.n) (.int .i64 t.s) (.slice la ln lc) (.slice ka kn kc)) (NI _ _ (.string nm) (.int .i64 t.k) (.int .i64 t.p) (.string t.n) (.int .i64 t.s) (.slice la ln lc) (.slice ka kn kc)) (Nat.ne_of_gt hP) htb,((But.of HB1.out).trans HB.out).put7 lR (.string nm) (.int .i64 t.k) (.int .i64 t.p) (.string t.n) (.int .i64 t.s) (.slice la ln lc) (.slice ka kn kc)⟩
 simp[results,Tryz.results80,go_sem,y7 HX9]
end Go.Proofs.YtmnbheplkidfaaaGreatDoor
namespace Go.Proofs.YtmnbheplkidfaaaGreatDoor
open Go.RowKit Go.Shelf
def inB(c:UInt8)(s:ByteArray):Bool:=s.data.toList.contains c
def Rm(c:UInt8)(s:ByteArray)(k:Nat):Prop:=∀j (h:j<s.size),j<k->s[j]≠c
theorem XE(c:UInt8)(s:ByteArray)(hs:s.size<=9223372036854775807)(w:World):
 Calls Tryz.prog 42 #[.int .u8 (c.toNat:Int),.string s] w fun e w'=>e= .returned (.bool (inB c s))/\w'=w:=by
 go_enter Tryz.func42,Tryz.ntmps42
 go_wp2_with fail
 go_loop [5] (fun n=>∃k:Nat,k<=s.size/\n= .int .i64 k/\Rm c s k) (fun n=>s.size-(intOf n).toNat)
 case atStart=>exact⟨0,by omega,rfl,fun j _ h=>by omega⟩
 case round=>
  obtain⟨k,hk,rfl,ha⟩:=hrel
  by_cases hlt:k<s.size
  ·by_cases hc:s[k]=c
   ·have hb:((s[k].toNat:Int)==(c.toNat:Int))=true:=by rw[hc];simp
    have hr:true=inB c s:=by
     symm;unfold inB;rw[List.contains_iff_mem,<-hc]
     exact List.getElem_mem (show k<s.data.toList.length from hlt)
    have HR:=Lib.hid hr
    clear hr hc
    go_wp2_with fail
    go_ret
    exact⟨Qm HR.out,rfl⟩
   ·have hb:((s[k].toNat:Int)==(c.toNat:Int))=false:=by
     rw[beq_eq_false_iff_ne];intro e;apply hc;apply UInt8.toNat_inj.1;omega
    have hnext:Rm c s (k+1):=fun j hj h=>by
     by_cases e:j=k
     ·subst e;exact hc
     ·exact ha j hj (by omega)
    clear hc
    go_wp2_with fail
    go_round
    case rel=>exact⟨k+1,by omega,by go_num,hnext⟩
    case measure=>simp[intOf];omega
  ·have hr:false=inB c s:=by
    symm
    unfold inB
    rw[Bool.eq_false_iff]
    intro h
    rw[List.contains_iff_mem] at h
    obtain⟨j,hj,e⟩:=List.mem_iff_getElem.1 h
    have hj':j<s.size:=hj
    exact ha j hj' (by omega) e
   have HR:=Lib.hid hr
   clear hr
   go_wp2_with fail
   go_ret
   exact⟨Qm HR.out,rfl⟩
theorem Jn(w:World):
 Calls Tryz.prog 103 #[] w fun e w'=>e= .returned (.string ⟨#[65,66,67,68,69,70,71,72,73,74,75,76,77,78,79,80,81,82,83,84,85,86,87,88,89,90,97,98,99,100,101,102,103,104,105,106,107,108,109,110,111,112,113,114,115,116,117,118,119,120,121,122,95]⟩)/\w'=w:=by
 go_enter Tryz.func103,Tryz.ntmps103
 go_wp2_with fail
 go_ret
 exact⟨rfl,rfl⟩
theorem JV(w:World):
 Calls Tryz.prog 104 #[] w fun e w'=>e= .returned (.string ⟨#[48,49,50,51,52,53,54,55,56,57]⟩)/\w'=w:=by
 go_enter Tryz.func104,Tryz.ntmps104
 go_wp2_with fail
 go_ret
 exact⟨rfl,rfl⟩
theorem Zd{p q:UInt8->Bool}(h:∀n:Fin 256,p (UInt8.ofNat n.val)=q (UInt8.ofNat n.val))(c:UInt8):p c=q c:=by
 have:=h ⟨c.toNat,c.toNat_lt⟩
 simpa using this
theorem Zx(c:UInt8)(w:World):
 Calls Tryz.prog 42 #[.int .u8 (c.toNat:Int),.string ⟨#[65,66,67,68,69,70,71,72,73,74,75,76,77,78,79,80,81,82,83,84,85,86,87,88,89,90,97,98,99,100,101,102,103,104,105,106,107,108,109,110,111,112,113,114,115,116,117,118,119,120,121,122,95]⟩] w fun e w'=>e= .returned (.bool (Lx.letB (c.toNat:Int)))/\w'=w:=by
 refine(XE c _ (by decide) w).mono ?_
 rintro e w'⟨rfl,rfl⟩
 refine⟨Qm ?_,rfl⟩
 exact Zd (p:=fun c=>List.contains _ c) (q:=fun c=>Lx.letB (c.toNat:Int)) (by decide+kernel) c
theorem Ye(c:UInt8):inB c ⟨#[65,66,67,68,69,70,71,72,73,74,75,76,77,78,79,80,81,82,83,84,85,86,87,88,89,90,97,98,99,100,101,102,103,104,105,106,107,108,109,110,111,112,113,114,115,116,117,118,119,120,121,122,95]⟩=Lx.letB (c.toNat:Int):=Zd (p:=fun c=>inB c ⟨#[65,66,67,68,69,70,71,72,73,74,75,76,77,78,79,80,81,82,83,84,85,86,87,88,89,90,97,98,99,100,101,102,103,104,105,106,107,108,109,110,111,112,113,114,115,116,117,118,119,120,121,122,95]⟩) (q:=fun c=>Lx.letB (c.toNat:Int)) (by decide+kernel) c
theorem YC(c:UInt8):inB c ⟨#[48,49,50,51,52,53,54,55,56,57]⟩=Lx.digB (c.toNat:Int):=Zd (p:=fun c=>inB c ⟨#[48,49,50,51,52,53,54,55,56,57]⟩) (q:=fun c=>Lx.digB (c.toNat:Int)) (by decide+kernel) c
def JE:List UInt8->Bool
 |[]=>false
 |c::r=>Lx.letU c&&r.all Lx.wcU
theorem VM(s:ByteArray)(h0:s.size=0)(w:World):
 Calls Tryz.prog 73 #[.string s] w fun e w'=>e= .returned (.bool false)/\Drew w w':=by
 have hb:((s.size:Int)==0)=true:=by rw[beq_iff_eq];omega
 go_enter Tryz.func73,Tryz.ntmps73
 go_wp2_with fail
 go_quiet (fail)
 go_wp2
 go_ret
 exact⟨rfl,(Drew.refl _).more _⟩
theorem ML(s:ByteArray)(h0:0<s.size)(hl:Lx.letB (s[0].toNat:Int)=false)(w:World):
 Calls Tryz.prog 73 #[.string s] w fun e w'=>e= .returned (.bool false)/\Drew w w':=by
 have hb:((s.size:Int)==0)=false:=by rw[beq_eq_false_iff_ne];omega
 go_enter Tryz.func73,Tryz.ntmps73
 go_wp2_with fail
 go_quiet (first|(go_at_call 103;exact Calls.quiet_of_same (Jn _))|(go_at_call 42;exact Calls.quiet_of_same (Zx _ _)))
 go_wp2
 go_ret
 exact⟨rfl,(Drew.refl _).more _⟩
def Xh(s:ByteArray)(k:Nat):Prop:=∀j (h:j<s.size),1<=j->j<k->Lx.wcU s[j]=true
theorem UR(s:ByteArray)(h0:0<s.size)(hs:s.size<=9223372036854775807)(hl:Lx.letB (s[0].toNat:Int)=true)(w:World):
 Calls Tryz.prog 73 #[.string s] w fun e w'=>e= .returned (.bool (JE s.data.toList))/\Drew w w':=by
 have hb:((s.size:Int)==0)=false:=by rw[beq_eq_false_iff_ne];omega
 have hd:=Jl s h0
 have hlen:s.data.toList.length=s.size:=rfl
 have htail:∀j (h:j+1<s.size),s.data.toList.tail[j]'(by rw[List.length_tail];omega)=s[j+1]:=fun j h=>by rw[List.getElem_tail];rfl
 have HD:=Lib.hid hd
 have HT:=Lib.hid htail
 clear hd htail
 go_enter Tryz.func73,Tryz.ntmps73
 go_wp2_with fail
 go_quiet (first|(go_at_call 103;exact Calls.quiet_of_same (Jn _))|(go_at_call 42;exact Calls.quiet_of_same (Zx _ _)))
 go_wp2_with fail
 go_loopw [3] (fun n wr=>∃k:Nat,1<=k/\k<=s.size/\n= .int .i64 k/\Xh s k/\Drew w wr) (fun n _=>s.size-(intOf n).toNat)
 case atStart=>exact⟨1,by omega,by omega,rfl,fun j _ h3 h4=>by omega,(Drew.refl _).more _⟩
 case round=>
  obtain⟨k,hk1,hk2,rfl,ha,hdr⟩:=hrel
  by_cases hlt:k<s.size
  ·have hnext:Lx.wcU s[k]=true->Xh s (k+1):=by
    intro hw j hj h3 h4
    by_cases e:j=k
    ·subst e;exact hw
    ·exact ha j hj h3 (by omega)
   have HNX:=Lib.hid hnext
   clear hnext
   have hk0:(0:Int)<=(k:Int):=Int.natCast_nonneg _
   have hk3:(k:Int)<(s.size:Int):=by omega
   by_cases hle:Lx.letB (s[k].toNat:Int)=true
   ·have hw:Lx.wcU s[k]=true:=by unfold Lx.wcU Lx.letU;rw[hle];rfl
    have HW:=Lib.hid (HNX.out hw)
    clear hw hl
    go_wp2_with fail
    go_quiet (first|(go_at_call 103;exact Calls.quiet_of_same (Jn _))|(go_at_call 42;exact Calls.quiet_of_same (Zx _ _)))
    go_wp2_with fail
    go_roundw
    case rel=>exact⟨k+1,by omega,by omega,by go_num,HW.out,hdr.more _⟩
    case measure=>simp[intOf];omega
   ·have hle':Lx.letB (s[k].toNat:Int)=false:=by simpa using hle
    by_cases hdg:Lx.digB (s[k].toNat:Int)=true
    ·have hw:Lx.wcU s[k]=true:=by unfold Lx.wcU Lx.digU;rw[hdg,Bool.or_true]
     have hil:=Ye s[k]
     have hid:=YC s[k]
     rw[hle'] at hil
     rw[hdg] at hid
     have HW:=Lib.hid (HNX.out hw)
     clear hw hl hle
     go_wp2_with fail
     go_quiet (first|(go_at_call 103;exact Calls.quiet_of_same (Jn _))|(go_at_call 104;exact Calls.quiet_of_same (JV _))|(go_at_call 42;exact Calls.quiet_of_same (XE _ _ (by decide) _)))
     go_wp2_with fail
     go_roundw
     case rel=>exact⟨k+1,by omega,by omega,by go_num,HW.out,hdr.more _⟩
     case measure=>simp[intOf];omega
    ·have hdg':Lx.digB (s[k].toNat:Int)=false:=by simpa using hdg
     have hr:false=JE s.data.toList:=by
      symm
      rw[HD.out];simp only[JE]
      rw[Bool.and_eq_false_iff];right
      rw[Bool.eq_false_iff];intro h
      rw[List.all_eq_true] at h
      have h2:=h (s.data.toList.tail[k-1]'(by rw[List.length_tail];omega)) (List.getElem_mem _)
      rw[HT.out (k-1) (by omega)] at h2
      have e:k-1+1=k:=by omega
      simp only[e] at h2
      simp[Lx.wcU,Lx.letU,Lx.digU,hle',hdg'] at h2
     have HR:=Lib.hid hr
     have hil:=Ye s[k]
     have hid:=YC s[k]
     rw[hle'] at hil
     rw[hdg'] at hid
     clear hr hl hle hdg
     go_wp2_with fail
     go_quiet (first|(go_at_call 103;exact Calls.quiet_of_same (Jn _))|(go_at_call 104;exact Calls.quiet_of_same (JV _))|(go_at_call 42;exact Calls.quiet_of_same (XE _ _ (by decide) _)))
     go_wp2
     go_ret
     exact⟨Qm HR.out,hdr.more _⟩
  ·have hr:true=JE s.data.toList:=by
    symm
    rw[HD.out];simp only[JE]
    rw[Bool.and_eq_true]
    refine⟨hl,?_⟩
    rw[List.all_eq_true]
    intro x hx
    obtain⟨j,hj,e⟩:=List.mem_iff_getElem.1 hx
    rw[List.length_tail] at hj
    rw[HT.out j (by omega)] at e
    rw[<-e];exact ha (j+1) (by omega) (by omega) (by omega)
   have HR:=Lib.hid hr
   clear hr hl
   go_wp2
   go_ret
   exact⟨Qm HR.out,hdr⟩
theorem US(s:ByteArray)(hs:s.size<=9223372036854775807)(w:World):
 Calls Tryz.prog 73 #[.string s] w fun e w'=>e= .returned (.bool (JE s.data.toList))/\Drew w w':=by
 by_cases h0:0<s.size
 ·by_cases hl:Lx.letB (s[0].toNat:Int)=true
  ·exact UR s h0 hs hl w
  ·have hl':Lx.letB (s[0].toNat:Int)=false:=by simpa using hl
   refine(ML s h0 hl' w).mono ?_
   rintro e w'⟨rfl,h⟩
   refine⟨Qm ?_,h⟩
   rw[Jl s h0];simp only[JE]
   rw[show Lx.letU s[0]=false from hl'];rfl
 ·refine(VM s (by omega) w).mono ?_
  rintro e w'⟨rfl,h⟩
  have:=JT s (by omega)
  rw[Lib.toList_data] at this
  exact⟨Qm (by rw[this];rfl),h⟩
theorem Sz(w:World):∀(k:Nat),k<10->(w.alloc (.cells JL 9)).cell? ⟨w.heap.size,k,none⟩=some (.string (kwAt k))
 |0,_=>by simp[JL]
 |1,_=>by simp[JL]
 |2,_=>by simp[JL]
 |3,_=>by simp[JL]
 |4,_=>by simp[JL]
 |5,_=>by simp[JL]
 |6,_=>by simp[JL]
 |7,_=>by simp[JL]
 |8,_=>by simp[JL]
 |9,_=>by simp[JL]
 |k+10,h=>by omega
theorem Hh(s:ByteArray)(w:World):
 Calls Tryz.prog 116 #[.string s] w fun e w'=>e= .returned (.bool (kwB 10 s))/\Below w.heap.size w w':=by
 go_enter Tryz.func116,Tryz.ntmps116
 go_wp2_with fail
 generalize hW:w.alloc (Obj.cells _ 9)=W2
 have hc:=Sz w
 have HB:=(Below.refl w.heap.size w).alloc lR (.cells JL 9)
 rw[show w.alloc (.cells JL 9)=W2 from hW] at hc HB
 replace HB:=Lib.hid HB
 clear hW
 go_loop [4] (fun n=>∃k:Nat,k<=10/\n= .int .i64 k/\Hid (kwB k s=false)) (fun n=>10-(intOf n).toNat)
 case atStart=>exact⟨0,by omega,rfl,Lib.hid rfl⟩
 case round=>
  obtain⟨k,hk,rfl,hf⟩:=hrel
  by_cases hlt:k<10
  ·have hck:=hc k hlt
   have hlt':(k:Int)<10:=by omega
   have hk0:(0:Int)<=(k:Int):=Int.natCast_nonneg _
   cases ht:((kwAt k).toList==s.toList) with
   |true=>
    go_wp2_with fail
    go_ret
    exact⟨Qm (Gc s k ht 10 hlt).symm,HB.out⟩
   |false=>
    have HN:=Lib.hid (show kwB (k+1) s=false by rw[kwB,hf.out,ht];rfl)
    go_wp2_with fail
    go_round
    case rel=>exact⟨k+1,by omega,by go_num,HN⟩
    case measure=>simp[intOf];omega
  ·obtain rfl:k=10:=by omega
   go_wp2_with fail
   go_ret
   exact⟨Qm hf.out.symm,HB.out⟩
theorem Yk(p:UInt8->Bool):∀(l:List UInt8) (k:Nat),k<=l.length->(l.take k).all p=decide (k<=Lx.span p l)
 |_,0,_=>by simp
 |[],k+1,h=>by simp at h
 |c::r,k+1,h=>by
  rw[List.take_succ_cons,List.all_cons,Lx.span_cons]
  by_cases hc:p c=true
  ·rw[hc,if_pos rfl,Bool.true_and,Yk p r k (by simpa using h)]
   rw[decide_eq_decide];omega
  ·have hc':p c=false:=by simpa using hc
   rw[hc',Bool.false_and,if_neg (by simp)];simp
theorem MV(p:UInt8->Bool)(l:List UInt8):l.all p=decide (Lx.span p l=l.length):=by
 have h:=Yk p l l.length lR
 rw[List.take_length] at h
 rw[h,decide_eq_decide]
 have:=Lx.span_le p l
 omega
theorem Kj(s:ByteArray):JE s.data.toList=(!s.toList.isEmpty&&decide (Lx.wordLen s.data.toList=s.size)):=by
 rw[Lib.toList_data]
 have hsz:s.size=s.data.toList.length:=rfl
 rw[hsz]
 cases s.data.toList with
 |nil=>rfl
 |cons c r=>
  have hr:JE (c::r)=(Lx.letU c&&decide (Lx.span Lx.wcU r=r.length)):=by simp only[JE];rw[MV]
  rw[hr,List.isEmpty_cons,Bool.not_false,Bool.true_and]
  have hw:Lx.wordLen (c::r)=if Lx.letU c then 1+Lx.span Lx.wcU r else 0:=rfl
  by_cases hc:Lx.letU c=true
  ·rw[if_pos hc] at hw
   rw[hc,Bool.true_and,decide_eq_decide,hw,List.length_cons];omega
  ·have hc':Lx.letU c=false:=by simpa using hc
   rw[if_neg hc] at hw
   rw[hc',Bool.false_and];symm;rw[decide_eq_false_iff_not,hw,List.length_cons];omega
theorem YL(s:ByteArray)(hs:s.size<=9223372036854775807)(b:Bool)(h:Hid (JE s.data.toList=b))(w:World):
 Calls Tryz.prog 73 #[.string s] w fun e w'=>e= .returned (.bool b)/\Drew w w':=by
 have:=US s hs w
 rw[h.out] at this;exact this
theorem Gp(s:ByteArray)(b:Bool)(h:Hid (kwB 10 s=b))(w:World):
 Calls Tryz.prog 116 #[.string s] w fun e w'=>e= .returned (.bool b)/\Below w.heap.size w w':=by
 have:=Hh s w
 rw[h.out] at this;exact this
theorem Ta(s:ByteArray)(hs:s.size<=9223372036854775807)(w:World):
 Calls Tryz.prog 87 #[.string s] w fun e w'=>e= .returned (.bool (Qb s))/\Below w.heap.size w w':=by
 have HS:=Lib.hid hs
 obtain⟨b,hb⟩:∃b,Hid (kwB 10 s=b):=⟨_,Lib.hid rfl⟩
 have hn:Qb s=(JE s.data.toList&& !b):=by unfold Qb;rw[Kj,hb.out]
 cases hw:JE s.data.toList with
 |true=>
  have HW:=Lib.hid hw
  have HR:=Lib.hid (show(!b)=Qb s by rw[hn,hw];rfl)
  clear hn hw hs
  go_enter Tryz.func87,Tryz.ntmps87
  go_wp2_with (first|(go_at_call 73;refine(YL s HS.out _ HW _).mono ?_;rintro e w1⟨rfl,hd1⟩)|(go_at_call 116;refine(Gp s b hb _).mono ?_;rintro e w2⟨rfl,hd2⟩))
  go_ret
  exact⟨Qm HR.out,(hd1.below _).trans (hd2.mono (hd1.below w.heap.size).size)⟩
 |false=>
  have HW:=Lib.hid hw
  have HR:=Lib.hid (show false=Qb s by rw[hn,hw];rfl)
  clear hn hw hs
  go_enter Tryz.func87,Tryz.ntmps87
  go_wp2_with (first|(go_at_call 73;refine(YL s HS.out _ HW _).mono ?_;rintro e w1⟨rfl,hd1⟩))
  go_ret
  exact⟨Qm HR.out,hd1.below _⟩
end Go.Proofs.YtmnbheplkidfaaaGreatDoor
namespace Go.Proofs.YtmnbheplkidfaaaGreatDoor
open Go.RowKit
def QQ(n:Nat)(w0:World):Type:={ w':World // Below n w0 w' }
instance (n:Nat) (w0:World):Nonempty (QQ n w0):=⟨⟨w0,bR⟩⟩
theorem Jd{P:Program}{id:Nat}{Q:Exit->Act->World->Prop}{a:Act}{w:World}{l:List Oper}(n:Nat)(w0:World)(hm:P.follows .mixedOrders=true)(hB:Region.lexB .any l.toArray=true)(hC:Below n w0 w)
 (h:wpQuiet P l.toArray (fun w'=>∃q:QQ n w0,w'=q.1) (fun a'=>∀w',(∃q:QQ n w0,w'=q.1)->Q .normal a' w') l a):(Code.region id l.toArray true).wp P Q a w:=
 wp_region_quiet (C:=fun w'=>∃q:QQ n w0,w'=q.1) hm hB ⟨⟨_,hC.drew⟩,rfl⟩ (by simpa using h)
theorem Jy{P:Program}{n:Nat}{w0:World}{f:FuncId}{args:Array Value}{v:Value}(q:QQ n w0)(hn:n<=w0.heap.size)(h:Calls P f args q.1 fun e w'=>e= .returned v/\Below q.1.heap.size q.1 w'):
 Calls P f args q.1 fun e w''=>e= .returned v/\∃q':QQ n w0,w''=q'.1:=
 h.mono fun _ w2 ⟨he,hb⟩=>⟨he,⟨⟨w2,q.2.trans (hb.mono (lT hn q.2.size))⟩,rfl⟩⟩
end Go.Proofs.YtmnbheplkidfaaaGreatDoor
namespace Go.Proofs.YtmnbheplkidfaaaGreatDoor
open Go.RowKit Go.Deep Go.Shelf
structure Yt(sl el:TypeId)(sz:Nat):Prop where
 ht:Tryz.prog.underlying sl=some (.slice el)
 hi:∃(i:TypeInfo) (z:Value),Tryz.prog.info? el=some i/\i.zero=some z/\i.size=sz/\i.bytes<=10000/\z.cells.size=sz
 hs:0<sz
theorem UD{sl el:TypeId}{sz:Nat}{z:Value}{bytes:Nat}(ht:Tryz.prog.underlying sl=some (.slice el))(h:(Tryz.prog.info? el).map (fun i=>(i.zero,i.size,i.bytes))=some (some z,sz,bytes))(hb:bytes<=10000)(hz:z.cells.size=sz)(hs:0<sz):Yt sl el sz:=by
 obtain⟨i0,hi,hz0,hz1,hz2⟩:=info_parts h
 exact⟨ht,⟨i0,z,hi,hz0,hz1,by omega,hz⟩,hs⟩
theorem Kd{sz:Nat}:∀ {l:List (List Value)},(∀e∈l,e.length=sz)->l.flatten.length=l.length*sz
 |[],_=>by simp
 |e::r,h=>by
  have h1:=h e (by simp)
  have h2:=Kd (l:=r) (fun x hx=>h x (by simp[hx]))
  rw[List.flatten_cons,List.length_append,h1,h2,List.length_cons,Nat.succ_mul];omega
theorem Ke{sz:Nat}:∀ {l:List (List Value)} (j i:Nat) (e:List Value),(∀e∈l,e.length=sz)->l[j]? =some e->i<sz->l.flatten[j*sz+i]? =e[i]?
 |[],j,i,e,_,h,_=>by simp at h
 |x::r,0,i,e,hl,h,hi=>by
  simp at h;subst h
  rw[List.flatten_cons,Nat.zero_mul,Nat.zero_add,List.getElem?_append_left (by rw[hl x (by simp)];exact hi)]
 |x::r,j+1,i,e,hl,h,hi=>by
  have hx:=hl x (by simp)
  have e1:(j+1)*sz+i=x.length+(j*sz+i):=by rw[hx,Nat.succ_mul];omega
  rw[List.flatten_cons,e1,List.getElem?_append_right (Nat.le_add_right _ _),Nat.add_sub_cancel_left]
  exact Ke j i e (fun y hy=>hl y (by simp[hy])) (by simpa using h) hi
theorem TW{l:List (List Value)}{u:Value}(h:u∈l.flatten):∃e∈l,u∈e:=by
 obtain⟨e,he,hu⟩:=List.mem_flatten.1 h;exact⟨e,he,hu⟩
structure GRow(el:TypeId)(sz base:Nat)(W:World)(v:Value)(es:List (List Value)):Prop where
 own:W.ownsRow base el sz v es.length es.flatten
 len:∀e∈es,e.length=sz
section
variable {sl el:TypeId} {sz base:Nat} {W W':World} {v:Value} {es:List (List Value)}
theorem GRow.nil(el:TypeId)(sz base:Nat)(W:World):GRow el sz base W sN []:=⟨World.ownsRow_nil _ _ _ _,fun _ h=>by cases h⟩
theorem GRow.alloc(h:GRow el sz base W v es)(o:Obj):GRow el sz base (W.alloc o) v es:=⟨World.ownsRow.alloc h.own o,h.len⟩
theorem GRow.lt(h:GRow el sz base W v es):∀k,v.ownBlock=some k->base<=k/\k<W.heap.size:=World.ownsRow.lt h.own
theorem GRow.kept(h:GRow el sz base W v es)(hb:∀k,v.ownBlock=some k->W'.heap[k]? =W.heap[k]?):GRow el sz base W' v es:=by
 refine⟨⟨h.own.1,?_⟩,h.len⟩
 rcases h.own.2 with h0|⟨g,cap,cur,rfl,hbg,hg,r⟩
 ·exact .inl h0
 ·exact .inr ⟨g,cap,cur,rfl,hbg,(hb g rfl).trans hg,r⟩
theorem GRow.to(h:GRow el sz base W v es)(hb:Below W.heap.size W W'):GRow el sz base W' v es:=h.kept fun k hk=>hb.block k (h.lt k hk).2
theorem GRow.slice(h:GRow el sz base W v es):∃a m c,v= .slice a m c:=by
 rcases h.own.2 with⟨rfl,_⟩|⟨g,cap,cur,rfl,_⟩
 ·exact⟨_,_,_,rfl⟩
 ·exact⟨_,_,_,rfl⟩
theorem GRow.parts(h:GRow el sz base W v es):(v= .slice none 0 0/\es=[])\/∃g cap,v= .slice (some ⟨g,0,none⟩) es.length cap/\base<=g/\g<W.heap.size/\es.length<=cap/\∀i,W.frozen? ⟨g,i,none⟩=false:=by
 rcases h.own.2 with⟨rfl,h0⟩|⟨g,cap,cur,rfl,hbg,hg,hc,_⟩
 ·exact .inl ⟨rfl,List.length_eq_zero_iff.1 h0⟩
 ·exact .inr ⟨g,cap,rfl,hbg,(h.lt g rfl).2,hc,fun i=>Qc hg i⟩
theorem GRow.cell(h:GRow el sz base W v es){j i:Nat}{e:List Value}{u:Value}(hj:es[j]? =some e)(hi:e[i]? =some u):∃g cap,v= .slice (some ⟨g,0,none⟩) es.length cap/\W.cell? ⟨g,j*sz+i,none⟩=some u:=by
 have hjl:j<es.length:=(List.getElem?_eq_some_iff.1 hj).1
 have he:=h.len e (List.mem_of_getElem? hj)
 have hil:i<sz:=by have:=(List.getElem?_eq_some_iff.1 hi).1;omega
 rcases h.parts with⟨_,rfl⟩|⟨g,cap,rfl,_⟩
 ·simp at hj
 ·refine⟨g,cap,rfl,?_⟩
  have hlt:j*sz+i<es.length*sz:=by
   have:(j+1)*sz<=es.length*sz:=Nat.mul_le_mul_right _ hjl
   rw[Nat.succ_mul] at this;omega
  rw[World.ownsRow.cellAt h.own (j*sz+i) hlt,Ke j i e h.len hj hil]
  exact hi
theorem Hg(I:Yt sl el sz)(ty:TypeId)(h:GRow el sz base W v es)(a:Option Addr)(c:Nat):
 (Builtin.append_ #[sl,sl] ty #[v,.slice a 0 c]).run Tryz.prog W= .ok v W:=by
 obtain⟨i0,z,hi,hz0,hz1,hz2,hz3⟩:=I.hi
 have ht:=I.ht
 rcases h.own.2 with⟨rfl,h0⟩|⟨g,cap,cur,rfl,_,_,hnc,_⟩
 ·cases a with
  |none=>simp[Builtin.append_,run_underlying ht,sizeOf,typeInfo,hi,Builtin.lenOf,Builtin.firstCells]
  |some ad=>simp[Builtin.append_,run_underlying ht,sizeOf,typeInfo,hi,Builtin.lenOf,Builtin.firstCells,loadCells,loadCellsFrom]
 ·cases a with
  |none=>simp[Builtin.append_,run_underlying ht,sizeOf,typeInfo,hi,Builtin.lenOf,Builtin.firstCells,hnc,storeCells]
  |some ad=>simp[Builtin.append_,run_underlying ht,sizeOf,typeInfo,hi,Builtin.lenOf,Builtin.firstCells,hnc,storeCells,loadCells,loadCellsFrom]
def KR(sz:Nat)(W:World)(na:Option Addr)(news:List (List Value)):Prop:=
 news=[]\/∃b o,na=some ⟨b,o,none⟩/\∀(j:Nat) (e:List Value) (i:Nat) (u:Value),news[j]? =some e->e[i]? =some u->W.cell? ⟨b,o+(j*sz+i),none⟩=some u
theorem GRow.src(h:GRow el sz base W v es):∃a n c,v= .slice a n c/\n=es.length/\KR sz W a es:=by
 rcases h.parts with⟨rfl,rfl⟩|⟨g,cap,rfl,_⟩
 ·exact⟨_,_,_,rfl,rfl,.inl rfl⟩
 ·refine⟨_,_,_,rfl,rfl,.inr ⟨g,0,rfl,fun j e i u hj hi=>?_⟩⟩
  obtain⟨g',cap',e1,e2⟩:=h.cell hj hi
  simp only[Value.slice.injEq,Option.some.injEq,Addr.mk.injEq,and_true,true_and] at e1
  rw[Nat.zero_add,e1.1];exact e2
theorem Fk(I:Yt sl el sz)(ty:TypeId)(h:GRow el sz base W v es)(na:Option Addr)(nn nc:Nat)(news:List (List Value))(hnn:nn=news.length)(hlen:∀e∈news,e.length=sz)(hsrc:KR sz W na news)(hone:∀e∈news,∀u∈e,u.oneCell'=true)(h63:es.length+news.length<=1000000000)(hbase:base<=W.heap.size):
 ∃ga gn gc w',(Builtin.append_ #[sl,sl] ty #[v,.slice na nn nc]).run Tryz.prog W= .ok (.slice ga gn gc) w'/\GRow el sz base w' (.slice ga gn gc) (es++news)/\W.grownBy w' v.ownBlock/\((Value.slice ga gn gc).ownBlock=v.ownBlock\/(Value.slice ga gn gc).ownBlock=some W.heap.size):=by
 obtain⟨i0,z,hi,hz0,hz1,hz2,hz3⟩:=I.hi
 have hs:=I.hs
 subst hnn
 rcases hsrc with rfl|⟨b,o,rfl,hc⟩
 ·obtain⟨ga,gn,gc,rfl⟩:=h.slice
  exact⟨_,_,_,W,Hg I ty h na nc,by rw[List.append_nil];exact h,⟨rfl,rfl,rfl,lR,fun _ _ _=>rfl⟩,.inl rfl⟩
 ·obtain⟨v',w',hr,h2,h3,h4,h5⟩:=run_append_own_at (P:=Tryz.prog) W base sl ty el i0 z sz i0.bytes I.ht hi hz0 hz1 rfl hz3 hs _ _ _ h.own ⟨b,o,none⟩ news.length nc news.flatten (Kd hlen) (fun j u hj=>by
   have hjl:j<news.length*sz:=by have:=(List.getElem?_eq_some_iff.1 hj).1;rwa[Kd hlen] at this
   have hq:j / sz<news.length:=(Nat.div_lt_iff_lt_mul hs).2 hjl
   obtain⟨e,he⟩:∃e,news[j / sz]? =some e:=⟨_,List.getElem?_eq_getElem hq⟩
   have hj2:j=j / sz*sz+j % sz:=by have:=Nat.div_add_mod j sz;rw[Nat.mul_comm] at this;omega
   rw[hj2,Ke (j / sz) (j % sz) e hlen he (Nat.mod_lt _ hs)] at hj
   have h:=hc (j / sz) e (j % sz) u he hj
   rw[<-hj2] at h
   cases j with
   |zero=>simpa [Addr.add] using h
   |succ j=>simpa [Addr.add] using h) (fun u hu=>by
   obtain⟨e,he,hue⟩:=TW hu
   exact hone e he u hue) (by unfold maxLen;omega) (by
    have:(es.length+news.length)*i0.bytes<=1000000000*10000:=Nat.mul_le_mul h63 hz2
    omega) hbase
  have h2':GRow el sz base w' v' (es++news):=⟨by rw[List.length_append,List.flatten_append];exact h2,fun e he=>by
   rcases List.mem_append.1 he with he|he
   ·exact h.len e he
   ·exact hlen e he⟩
  obtain⟨ga,gn,gc,rfl⟩:=h2'.slice
  exact⟨_,_,_,w',hr,h2',h3,h5⟩
theorem Zb{ops:Array Oper}{o:Oper}{a:Act}{w:World}{K:Act->World->Prop}{Q:Exit->Act->World->Prop}{E:Prop}(I:Yt sl el sz)(hgd:o.guard=none)(s x:Operand)
 (ho:o.op= .call { callee:= .builtin .append,args:=#[s,x],argTypes:=#[sl,sl] })
 (hs:a.eval s=v) (h:GRow el sz base w v es) (na:Option Addr) (nn nc:Nat) (news:List (List Value)) (hx:a.eval x= .slice na nn nc) (hnn:nn=news.length) (hlen:∀e∈news,e.length=sz) (hsrc:KR sz w na news) (hone:∀e∈news,∀u∈e,u.oneCell'=true) (h63:es.length+news.length<=1000000000) (hbase:base<=w.heap.size)
 (m:List (List Value)) (hm:es++news=m)
 (hk:∀ga gn gc w',GRow el sz base w' (.slice ga gn gc) m->w.grownBy w' v.ownBlock->((Value.slice ga gn gc).ownBlock=v.ownBlock\/(Value.slice ga gn gc).ownBlock=some w.heap.size)->K (a.put o.dst (.slice ga gn gc)) w'):
 if Region.wanted o (yielded ops a.tmps)=true then Oper.wp Tryz.prog o a w K Q else E:=by
 subst hm
 have hw:Region.wanted o (yielded ops a.tmps)=true:=by simp[Region.wanted,hgd]
 rw[if_pos hw]
 obtain⟨ga,gn,gc,w',hr,h2,h3,h4⟩:=Fk I o.type h na nn nc news hnn hlen hsrc hone h63 hbase
 unfold Oper.wp execOp
 simp only[ho,resolve,invoke,builtin,Sem.run_bind,Sem.run_pure,Result.andThen_ok,List.map_toArray,List.map_cons,List.map_nil,hs,hx,hr]
 exact hk ga gn gc w' h2 h3 h4
end
end Go.Proofs.YtmnbheplkidfaaaGreatDoor
namespace Go.Proofs.YtmnbheplkidfaaaGreatDoor
open Go.RowKit Go.Deep Go.Shelf
theorem Ji{sl el:TypeId}{sz base:Nat}{v:Value}{es:List (List Value)}{ops:Array Oper}{rest:List Oper}{o:Oper}{a:Act}{w:World}{Q:Exit->Act->World->Prop}(I:Yt sl el sz)(hgd:o.guard=none)(s x:Operand)
 (ho:o.op= .call { callee:= .builtin .append,args:=#[s,x],argTypes:=#[sl,sl] })
 (hs:a.eval s=v) (h:GRow el sz base w v es) (na:Option Addr) (nn nc:Nat) (news:List (List Value)) (hx:a.eval x= .slice na nn nc) (hnn:nn=news.length) (hlen:∀e∈news,e.length=sz) (hsrc:KR sz w na news) (hone:∀e∈news,∀u∈e,u.oneCell'=true) (h63:es.length+news.length<=1000000000) (hbase:base<=w.heap.size)
 (hk:∀ga gn gc w',GRow el sz base w' (.slice ga gn gc) (es++news)->w.grownBy w' v.ownBlock->((Value.slice ga gn gc).ownBlock=v.ownBlock\/(Value.slice ga gn gc).ownBlock=some w.heap.size)->wpList Tryz.prog ops Q rest (a.put o.dst (.slice ga gn gc)) w'):wpList Tryz.prog ops Q (o::rest) a w:=by
 refine wpList_plain hgd fun K hK=>?_
 obtain⟨ga,gn,gc,w',hr,h2,h3,h4⟩:=Fk I o.type h na nn nc news hnn hlen hsrc hone h63 hbase
 unfold Oper.wp execOp
 simp only[ho,resolve,invoke,builtin,Sem.run_bind,Sem.run_pure,Result.andThen_ok,List.map_toArray,List.map_cons,List.map_nil,hs,hx,hr]
 exact hK _ _ (hk ga gn gc w' h2 h3 h4)
theorem JY{sz:Nat}{w:World}{cs:List Value}{t:TypeId}{fr:Nat×Nat}{b:Nat}(h:w.heap[b]? =some (.cells cs.toArray t fr)):KR sz w (some ⟨b,0,none⟩) [cs]:=by
 refine .inr ⟨b,0,rfl,fun j e i u hj hi=>?_⟩
 cases j with
 |zero=>
  simp only[List.getElem?_cons_zero,Option.some.injEq] at hj
  subst hj
  rw[show 0+(0*sz+i)=i by omega]
  simp only[World.cell?,h]
  simpa using hi
 |succ j=>simp at hj
theorem GRow.single{el:TypeId}{sz base:Nat}(w:World)(cs:List Value)(hcs:cs.length=sz)(hb:base<=w.heap.size):GRow el sz base (w.alloc (.cells cs.toArray el)) (.slice (some ⟨w.heap.size,0,none⟩) 1 1) [cs]:=by
 refine⟨⟨by simp[hcs],.inr ⟨w.heap.size,1,cs.toArray,rfl,hb,World.alloc_heap_new _ _,lR,by unfold maxLen;omega,by simp[hcs],?_⟩⟩,fun x hx=>by rw[mS hx];exact hcs⟩
 rw[show([cs]:List (List Value)).flatten=cs by simp,List.take_of_length_le (by simp[hcs])]
abbrev cl(v:Value):List Value:=v.cells.toList
structure Lyer{α:Type}(V:(Nat->Prop)->World->Value->α->Prop)(sz:Nat):Prop where
 keep:∀ {B:Nat->Prop} {w w':World} {v:Value} {x:α},Keeps B w w'->V B w v x->V B w' v x
 mono:∀ {B C:Nat->Prop} {w:World} {v:Value} {x:α},(∀k,B k->C k)->V B w v x->V C w v x
 len:∀ {B:Nat->Prop} {w:World} {v:Value} {x:α},V B w v x->(cl v).length=sz
 one:∀ {B:Nat->Prop} {w:World} {v:Value} {x:α},V B w v x->∀u∈cl v,u.oneCell'=true
theorem lyTy:Lyer (fun B w v t=>TyVal B w v t) 6:=by
 refine⟨fun h hv=>hv.keep h,fun h hv=>hv.mono h,?_,?_⟩
 ·rintro B w v x⟨lv,kv,rfl,_⟩;rfl
 ·rintro B w v x⟨lv,kv,rfl,_,hl,hk⟩ u hu
  obtain⟨la,ln,lc,rfl,_⟩:=hl.open
  obtain⟨ka,kn,kc,rfl,_⟩:=hk.open
  simp only[cl,Value.cells,List.mem_cons,List.not_mem_nil,or_false] at hu
  rcases hu with rfl|rfl|rfl|rfl|rfl|rfl <;> rfl
theorem lyPr:Lyer (fun B w v p=>PrVal B w v p) 12:=by
 refine⟨fun h hv=>hv.keep h,fun h hv=>hv.mono h,?_,?_⟩
 ·rintro B w v x⟨lv,av,tl,tk,kv,rfl,_⟩;rfl
 ·intro B w v x h u hu
  obtain⟨la,ln,lc,aa,an,ac,ta,tn,tc,ua,un,uc,ka,kn,kc,rfl⟩:=PrVal.open h
  simp only[cl,Value.cells,List.mem_cons,List.not_mem_nil,or_false] at hu
  rcases hu with rfl|rfl|rfl|rfl|rfl|rfl|rfl|rfl|rfl|rfl|rfl|rfl <;> rfl
def XL(_:Nat->Prop)(_:World)(v:Value)(a:Vl):Prop:=v= .agg #[.int .i64 a.k,.string a.n,.int .i64 a.x]/\a.n.size<=maxLen
theorem lyVl:Lyer XL 3:=by
 refine⟨fun _ hv=>hv,fun _ hv=>hv,?_,?_⟩
 ·rintro B w v x⟨rfl,_⟩;rfl
 ·rintro B w v x⟨rfl,_⟩ u hu
  simp only[cl,Value.cells,List.mem_cons,List.not_mem_nil,or_false] at hu
  rcases hu with rfl|rfl|rfl <;> rfl
def PmVal(B:Nat->Prop)(w:World)(v:Value)(a:Pm):Prop:=∃tl tk,v= .agg #[.string a.n,.int .i64 a.t.k,.int .i64 a.t.p,.string a.t.n,.int .i64 a.t.s,tl,tk]/\a.n.size<=maxLen/\TyVal B w (.agg #[.int .i64 a.t.k,.int .i64 a.t.p,.string a.t.n,.int .i64 a.t.s,tl,tk]) a.t
theorem TyVal.slices{B:Nat->Prop}{w:World}{t:Ty}{x1 x2:Value}{k p s:Value}{n:Value}(h:TyVal B w (.agg #[k,p,n,s,x1,x2]) t):∃la ln lc ka kn kc,x1= .slice la ln lc/\x2= .slice ka kn kc:=by
 obtain⟨lv,kv,e,_,hl,hk⟩:=h
 simp only[Value.agg.injEq,Array.mk.injEq,List.cons.injEq,and_true] at e
 obtain⟨-,-,-,-,rfl,rfl⟩:=e
 obtain⟨la,ln,lc,rfl,_⟩:=hl.open
 obtain⟨ka,kn,kc,rfl,_⟩:=hk.open
 exact⟨_,_,_,_,_,_,rfl,rfl⟩
theorem lyPm:Lyer PmVal 7:=by
 refine⟨?_,?_,?_,?_⟩
 ·rintro B w w' v x h⟨tl,tk,e,hn,ht⟩;exact⟨tl,tk,e,hn,ht.keep h⟩
 ·rintro B C w v x h⟨tl,tk,e,hn,ht⟩;exact⟨tl,tk,e,hn,ht.mono h⟩
 ·rintro B w v x⟨tl,tk,rfl,_⟩;rfl
 ·rintro B w v x⟨tl,tk,rfl,_,ht⟩ u hu
  obtain⟨la,ln,lc,ka,kn,kc,rfl,rfl⟩:=ht.slices
  simp only[cl,Value.cells,List.mem_cons,List.not_mem_nil,or_false] at hu
  rcases hu with rfl|rfl|rfl|rfl|rfl|rfl|rfl <;> rfl
structure ButO(P:Nat)(O:Nat->Prop)(w w':World):Prop where
 os:w'.os=w.os
 tape:w'.tape=w.tape
 output:w'.output=w.output
 size:w.heap.size<=w'.heap.size
 block:∀k,k<w.heap.size->k≠P->¬O k->w'.heap[k]? =w.heap[k]?
section
variable {P:Nat} {O O':Nat->Prop} {w w' w'':World}
theorem ButO.refl(P:Nat)(O:Nat->Prop)(w:World):ButO P O w w:=⟨rfl,rfl,rfl,lR,fun _ _ _ _=>rfl⟩
theorem But.o(h:But P w w')(O:Nat->Prop):ButO P O w w':=⟨h.os,h.tape,h.output,h.size,fun k hk hn _=>h.block k hk hn⟩
theorem ButO.but(h:ButO P O w w')(hO:∀k,k<w.heap.size->¬O k):But P w w':=⟨h.os,h.tape,h.output,h.size,fun k hk hn=>h.block k hk hn (hO k hk)⟩
theorem ButO.trans(h:ButO P O w w')(k:ButO P O' w' w'')(hO:∀j,O' j->O j\/w.heap.size<=j):ButO P O w w'':=⟨k.os.trans h.os,k.tape.trans h.tape,k.output.trans h.output,lT h.size k.size,fun j hj hn ho=>(k.block j (lL hj h.size) hn (fun e=>(hO j e).elim ho (fun e=>by omega))).trans (h.block j hj hn ho)⟩
theorem ButO.to(h:ButO P O w w')(k:Below w'.heap.size w' w''):ButO P O w w'':=h.trans (O':=fun _=>False) ((But.of k).o _) (fun _ h=>h.elim)
theorem ButO.below{B:Nat}(h:ButO P O w w')(hP:B<=P)(hO:∀k,O k->B<=k)(hB:B<=w.heap.size):Below B w w':=⟨h.os,h.tape,h.output,h.size,fun j hj=>h.block j (by omega) (by omega) (fun e=>by have:=hO j e;omega)⟩
theorem ButO.mono(h:ButO P O w w')(hO:∀k,k<w.heap.size->O k->O' k):ButO P O' w w':=⟨h.os,h.tape,h.output,h.size,fun k hk hn ho=>h.block k hk hn (fun e=>ho (hO k hk e))⟩
theorem ButO.grown{row:Option Nat}(h:w.grownBy w' row)(P:Nat):ButO P (fun k=>some k=row) w w':=⟨h.os,h.tape,h.output,h.size,fun k hk _ ho=>h.block k hk ho⟩
end
structure LRow{α:Type}(el:TypeId)(sz base:Nat)(V:(Nat->Prop)->World->Value->α->Prop)(O:Nat->Prop)(w:World)(l:Value)(vs:List Value)(xs:List α):Prop where
 row:GRow el sz base w l (vs.map cl)
 len:vs.length=xs.length
 val:∀(j:Nat) (u:Value) (x:α),vs[j]? =some u->xs[j]? =some x->V (fun k=>base<=k/\k<w.heap.size/\¬O k/\some k≠l.ownBlock) w u x
 out:∀k,l.ownBlock=some k->¬O k
section
variable {α:Type} {el:TypeId} {sz base P:Nat} {V:(Nat->Prop)->World->Value->α->Prop} {O O':Nat->Prop} {w w':World} {l:Value} {vs:List Value} {xs:List α}
theorem LRow.nil(el:TypeId)(sz base:Nat)(V:(Nat->Prop)->World->Value->α->Prop)(O:Nat->Prop)(w:World):LRow el sz base V O w sN [] ([]:List α):=⟨GRow.nil _ _ _ _,rfl,fun j u x h=>by simp at h,fun k h=>by cases h⟩
theorem LRow.frame(L:Lyer V sz)(h:LRow el sz base V O w l vs xs)(hb:ButO P O w w')(hP:P<base)(hO:∀k,O' k->O k\/w.heap.size<=k):LRow el sz base V O' w' l vs xs:=by
 refine⟨h.row.kept fun k hk=>hb.block k (h.row.lt k hk).2 (fun e=>by have:=(h.row.lt k hk).1;omega) (h.out k hk),h.len,fun j u x hu hx=>?_,fun k hk e=>?_⟩
 ·refine L.mono (fun k hk=>?_) (L.keep (w':=w') (fun k o hk ho _=>(hb.block k hk.2.1 (fun e=>by have:=hk.1;omega) hk.2.2.1).trans ho) (h.val j u x hu hx))
  exact⟨hk.1,lL hk.2.1 hb.size,fun e=>(hO k e).elim hk.2.2.1 (fun e=>by have:=hk.2.1;omega),hk.2.2.2⟩
 ·rcases hO k e with e|e
  ·exact h.out k hk e
  ·have:=(h.row.lt k hk).2;omega
theorem LRow.grow{l':Value}{u:Value}{x:α}(L:Lyer V sz)(h:LRow el sz base V O w l vs xs)(hu:V (fun k=>base<=k/\k<w.heap.size/\¬O k/\some k≠l.ownBlock) w u x)(hr:GRow el sz base w' l' (vs.map cl++[cl u]))(hg:w.grownBy w' l.ownBlock)(hl:l'.ownBlock=l.ownBlock\/l'.ownBlock=some w.heap.size)(hO:∀k,O k->k<w.heap.size):LRow el sz base V O w' l' (vs++[u]) (xs++[x]):=by
 have hk:Keeps (fun k=>base<=k/\k<w.heap.size/\¬O k/\some k≠l.ownBlock) w w':=fun k o hk ho _=>(hg.block k hk.2.1 hk.2.2.2).trans ho
 have hm:∀k,(base<=k/\k<w.heap.size/\¬O k/\some k≠l.ownBlock)->base<=k/\k<w'.heap.size/\¬O k/\some k≠l'.ownBlock:=fun k hk=>⟨hk.1,lL hk.2.1 hg.size,hk.2.2.1,fun e=>by
  rcases hl with hl|hl
  ·exact hk.2.2.2 (e.trans hl)
  ·have:=Option.some.inj (e.trans hl);have:=hk.2.1;omega⟩
 refine⟨by rw[List.map_append];exact hr,by simp[h.len],fun j v y hv hy=>?_,fun k hk e=>?_⟩
 ·rcases Nat.lt_or_ge j vs.length with hj|hj
  ·rw[List.getElem?_append_left hj] at hv
   rw[List.getElem?_append_left (by rw[<-h.len];exact hj)] at hy
   exact L.mono hm (L.keep hk (h.val j v y hv hy))
  ·rw[List.getElem?_append_right hj] at hv
   rw[List.getElem?_append_right (by rw[<-h.len];exact hj),<-h.len] at hy
   cases hq:j-vs.length with
   |zero=>
    rw[hq] at hv hy
    simp only[List.getElem?_cons_zero,Option.some.injEq] at hv hy
    subst hv hy
    exact L.mono hm (L.keep hk hu)
   |succ q=>rw[hq] at hv;simp at hv
 ·rcases hl with hl|hl
  ·exact h.out k (hl▸hk) e
  ·have:=Option.some.inj (hl.symm.trans hk);have:=hO k e;omega
theorem LRow.one{u:Value}{x:α}(L:Lyer V sz)(hu:V (fun k=>base<=k/\k<w.heap.size/\¬O k) w u x)(hO:∀k,O k->k<w.heap.size)(hb:base<=w.heap.size):LRow el sz base V O (w.alloc (.cells (cl u).toArray el)) (.slice (some ⟨w.heap.size,0,none⟩) 1 1) [u] [x]:=by
 refine⟨GRow.single w (cl u) (L.len hu) hb,rfl,fun j v y hv hy=>?_,fun k hk e=>?_⟩
 ·cases j with
  |zero=>
   simp only[List.getElem?_cons_zero,Option.some.injEq] at hv hy
   subst hv hy
   refine L.mono (fun k hk=>?_) (L.keep (w':=w.alloc (.cells (cl u).toArray el)) (fun k o hk ho _=>(Below.heap_alloc _ _ _ hk.2.1).trans ho) hu)
   exact⟨hk.1,by rw[World.size_alloc];have:=hk.2.1;omega,hk.2.2,fun e=>by have e':k=w.heap.size:=Option.some.inj e;have:=hk.2.1;omega⟩
  |succ j=>simp at hv
 ·have e':w.heap.size=k:=Option.some.inj hk
  have:=hO k e
  omega
theorem LRow.reO(L:Lyer V sz)(h:LRow el sz base V O w l vs xs)(hO:∀k,O' k->O k):LRow el sz base V O' w l vs xs:=⟨h.row,h.len,fun j u x hu hx=>L.mono (fun k hk=>⟨hk.1,hk.2.1,fun e=>hk.2.2.1 (hO k e),hk.2.2.2⟩) (h.val j u x hu hx),fun k hk e=>h.out k hk (hO k e)⟩
end
theorem Nv{B:Nat->Prop}{w:World}{b:Nat}:∀(ts:List Ty) (o:Nat),(∀(j:Nat) (t:Ty),ts[j]? =some t->TyAt B w t b (o+j*6))->TysAt B w ts b o
 |[],_,_=>by simp only[TysAt]
 |t::r,o,h=>by
  simp only[TysAt]
  refine⟨by simpa using h 0 t rfl,Nv r (o+6) (fun j u hj=>?_)⟩
  have:=h (j+1) u (by simpa using hj)
  rwa[show o+(j+1)*6=o+6+j*6 by omega] at this
theorem NL{B:Nat->Prop}{w:World}{b:Nat}:∀(ps:List Pr) (o:Nat),(∀(j:Nat) (p:Pr),ps[j]? =some p->PrAt B w p b (o+j*12))->PrsAt B w ps b o
 |[],_,_=>by simp only[PrsAt]
 |t::r,o,h=>by
  simp only[PrsAt]
  refine⟨by simpa using h 0 t rfl,NL r (o+12) (fun j u hj=>?_)⟩
  have:=h (j+1) u (by simpa using hj)
  rwa[show o+(j+1)*12=o+12+j*12 by omega] at this
section
variable {base sz:Nat} {el:TypeId} {w:World} {l:Value} {vs:List Value} {C:Nat->Prop}
theorem LRow.cells{α:Type}{V:(Nat->Prop)->World->Value->α->Prop}{O:Nat->Prop}{xs:List α}(h:LRow el sz base V O w l vs xs){g n cap:Nat}(hl:l= .slice (some ⟨g,0,none⟩) n cap){j:Nat}{u:Value}(hu:vs[j]? =some u){i:Nat}{z:Value}(hz:(cl u)[i]? =some z):w.cell? ⟨g,j*sz+i,none⟩=some z:=by
 obtain⟨g',cap',e,hc⟩:=h.row.cell (j:=j) (i:=i) (e:=cl u) (u:=z) (by rw[List.getElem?_map,hu];rfl) hz
 rw[hl] at e
 simp only[Value.slice.injEq,Option.some.injEq,Addr.mk.injEq,and_true] at e
 rw[e.1];exact hc
theorem LRow.parts{α:Type}{V:(Nat->Prop)->World->Value->α->Prop}{O:Nat->Prop}{xs:List α}(h:LRow el sz base V O w l vs xs):(l= .slice none 0 0/\xs=[])\/∃g cap,l= .slice (some ⟨g,0,none⟩) xs.length cap/\base<=g/\g<w.heap.size/\xs.length<=cap:=by
 rcases h.row.parts with⟨e,hn⟩|⟨g,cap,e,h1,h2,h3,_⟩
 ·refine .inl ⟨e,List.length_eq_zero_iff.1 ?_⟩
  rw[<-h.len]
  simpa using hn
 ·rw[List.length_map,h.len] at e h3
  exact .inr ⟨g,cap,e,h1,h2,h3⟩
theorem LRow.at{α:Type}{V:(Nat->Prop)->World->Value->α->Prop}{O:Nat->Prop}{xs:List α}(h:LRow el sz base V O w l vs xs){j:Nat}{x:α}(hx:xs[j]? =some x):∃u,vs[j]? =some u/\V (fun k=>base<=k/\k<w.heap.size/\¬O k/\some k≠l.ownBlock) w u x:=by
 have hj:=(List.getElem?_eq_some_iff.1 hx).1
 rw[<-h.len] at hj
 exact⟨_,List.getElem?_eq_getElem hj,h.val j _ x (List.getElem?_eq_getElem hj) hx⟩
theorem LRow.tys{O:Nat->Prop}{xs:List Ty}(h:LRow 28 6 base (fun B w v t=>TyVal B w v t) O w l vs xs)(hm:xs.length<=maxLen):TySl (fun k=>base<=k/\k<w.heap.size/\¬O k) w l xs:=by
 rcases h.parts with⟨rfl,rfl⟩|⟨g,cap,e,h1,h2,_⟩
 ·exact⟨.inl ⟨⟨_,_,rfl⟩,rfl⟩,Nat.zero_le _⟩
 ·have hB:base<=g/\g<w.heap.size/\¬O g:=⟨h1,h2,h.out g (by rw[e];rfl)⟩
  refine⟨.inr ⟨g,0,cap,e,hB,Nv xs 0 (fun j t hj=>?_)⟩,hm⟩
  obtain⟨u,hu,hv⟩:=h.at hj
  have hc:=fun i z (hz:(cl u)[i]? =some z)=>h.cells e hu (i:=i) (z:=z) hz
  have hv':=lyTy.mono (C:=fun k=>base<=k/\k<w.heap.size/\¬O k) (fun k hk=>⟨hk.1,hk.2.1,hk.2.2.1⟩) hv
  obtain⟨lv,kv,rfl,_⟩:=hv
  rw[Nat.zero_add]
  exact XO hB (hc 0 _ rfl) (hc 1 _ rfl) (hc 2 _ rfl) (hc 3 _ rfl) (hc 4 _ rfl) (hc 5 _ rfl) hv'
theorem LRow.prs{O:Nat->Prop}{xs:List Pr}(h:LRow 31 12 base (fun B w v t=>PrVal B w v t) O w l vs xs)(hm:xs.length<=maxLen):PrSl (fun k=>base<=k/\k<w.heap.size/\¬O k) w l xs:=by
 rcases h.parts with⟨rfl,rfl⟩|⟨g,cap,e,h1,h2,_⟩
 ·exact⟨.inl ⟨⟨_,_,rfl⟩,rfl⟩,Nat.zero_le _⟩
 ·have hB:base<=g/\g<w.heap.size/\¬O g:=⟨h1,h2,h.out g (by rw[e];rfl)⟩
  refine⟨.inr ⟨g,0,cap,e,hB,NL xs 0 (fun j t hj=>?_)⟩,hm⟩
  obtain⟨u,hu,hv⟩:=h.at hj
  have hc:=fun i z (hz:(cl u)[i]? =some z)=>h.cells e hu (i:=i) (z:=z) hz
  have hv':=lyPr.mono (C:=fun k=>base<=k/\k<w.heap.size/\¬O k) (fun k hk=>⟨hk.1,hk.2.1,hk.2.2.1⟩) hv
  obtain⟨lv,av,tl,tk,kv,rfl,_⟩:=hv
  rw[Nat.zero_add]
  exact UI hB (hc 0 _ rfl) (hc 1 _ rfl) (hc 2 _ rfl) (hc 3 _ rfl) (hc 4 _ rfl) (hc 5 _ rfl) (hc 6 _ rfl) (hc 7 _ rfl) (hc 8 _ rfl) (hc 9 _ rfl) (hc 10 _ rfl) (hc 11 _ rfl) hv'
theorem LRow.vls{O:Nat->Prop}{xs:List Vl}(h:LRow 82 3 base XL O w l vs xs)(hm:xs.length<=maxLen):VlSl (fun k=>base<=k/\k<w.heap.size/\¬O k) w l xs:=by
 have hn:∀a∈xs,a.n.size<=maxLen:=fun a ha=>by
  obtain⟨j,hj⟩:=List.getElem?_of_mem ha
  obtain⟨u,hu,hv⟩:=h.at hj
  exact hv.2
 rcases h.parts with⟨rfl,rfl⟩|⟨g,cap,e,h1,h2,h3⟩
 ·exact⟨.inl ⟨⟨_,_,rfl⟩,rfl⟩,Nat.zero_le _,hn⟩
 ·refine⟨.inr ⟨g,0,cap,e,⟨h1,h2,h.out g (by rw[e];rfl)⟩,h3,fun j a hj=>?_⟩,hm,hn⟩
  obtain⟨u,hu,hv⟩:=h.at hj
  have hc:=fun i z (hz:(cl u)[i]? =some z)=>h.cells e hu (i:=i) (z:=z) hz
  obtain⟨rfl,_⟩:=hv
  rw[Nat.zero_add]
  exact⟨hc 0 _ rfl,hc 1 _ rfl,hc 2 _ rfl⟩
theorem LRow.pms{O:Nat->Prop}{xs:List Pm}(h:LRow 63 7 base PmVal O w l vs xs)(hm:xs.length<=maxLen):PmSl (fun k=>base<=k/\k<w.heap.size/\¬O k) w l xs:=by
 rcases h.parts with⟨rfl,rfl⟩|⟨g,cap,e,h1,h2,_⟩
 ·exact⟨.inl ⟨⟨_,_,rfl⟩,rfl⟩,Nat.zero_le _⟩
 ·have hB:base<=g/\g<w.heap.size/\¬O g:=⟨h1,h2,h.out g (by rw[e];rfl)⟩
  refine⟨.inr ⟨g,0,cap,e,hB,fun j a hj=>?_⟩,hm⟩
  obtain⟨u,hu,hv⟩:=h.at hj
  have hc:=fun i z (hz:(cl u)[i]? =some z)=>h.cells e hu (i:=i) (z:=z) hz
  have hv':=lyPm.mono (C:=fun k=>base<=k/\k<w.heap.size/\¬O k) (fun k hk=>⟨hk.1,hk.2.1,hk.2.2.1⟩) hv
  obtain⟨tl,tk,rfl,hn,_⟩:=hv
  obtain⟨tl',tk',e',_,ht⟩:=hv'
  simp only[Value.agg.injEq,Array.mk.injEq,List.cons.injEq,and_true,true_and] at e'
  obtain⟨rfl,rfl⟩:=e'
  rw[Nat.zero_add]
  exact⟨hn,hc 0 _ rfl,XO hB (hc 1 _ rfl) (hc 2 _ rfl) (hc 3 _ rfl) (hc 4 _ rfl) (hc 5 _ rfl) (hc 6 _ rfl) ht⟩
end
def XG{γ α:Type}(P tb:Nat)(E:Int)(B:Nat)(f:Nat)(bs cs:Array Value)(F:List Tk->PR γ)(pr:γ->α)(V:(Nat->Prop)->World->Value->α->Prop)(St:List γ->World->Prop)(Ow:World->Nat->Prop)(n:Nat):Prop:=
 ∀(xs:List γ) (ts:List Tk) (W:World),ts.length<n->xs.length<=1000000->Env B W->PaIs P tb E ts W->St xs W->Calls Tryz.prog f (bs++cs) W fun e w'=>match F ts with
  | .ok x r=>(∃v,e= .returned v/\V (fun k=>W.heap.size<=k/\k<w'.heap.size/\¬Ow w' k) w' v (pr x))/\PaIs P tb E r w'/\St (xs++[x]) w'/\ButO P (Ow W) W w'/\∀k,Ow w' k->Ow W k\/W.heap.size<=k
  | .bad err r=>e= .panicked (YT err (posE E r))/\ButO P (Ow W) W w'
structure Noted{γ:Type}(St:List γ->World->Prop)(Ow:World->Nat->Prop)(P:Nat):Prop where
 lt:∀ {xs W k},St xs W->Ow W k->k<W.heap.size/\k≠P
 keep:∀ {xs W W'},St xs W->W.heap.size<=W'.heap.size->(∀k,Ow W k->W'.heap[k]? =W.heap[k]?)->St xs W'/\∀k,Ow W' k↔Ow W k
section
variable {γ:Type} {St:List γ->World->Prop} {Ow:World->Nat->Prop} {P:Nat} {xs:List γ} {W W':World}
theorem Noted.but(N:Noted St Ow P)(h:St xs W)(hb:But P W W'):St xs W'/\∀k,Ow W' k↔Ow W k:=N.keep h hb.size (fun k hk=>hb.block k (N.lt h hk).1 (N.lt h hk).2)
theorem Noted.to(N:Noted St Ow P)(h:St xs W)(hb:Below W.heap.size W W'):St xs W'/\∀k,Ow W' k↔Ow W k:=N.but h (But.of hb)
theorem Noted.grown{row:Option Nat}(N:Noted St Ow P)(h:St xs W)(hg:W.grownBy W' row)(hr:∀k,Ow W k->some k≠row):St xs W'/\∀k,Ow W' k↔Ow W k:=N.keep h hg.size (fun k hk=>hg.block k (N.lt h hk).1 (hr k hk))
end
def ZL{γ:Type}(P tb:Nat)(E:Int)(w:World)(r:PR (List γ))(G:World->List γ->Value->Prop)(St:List γ->World->Prop)(Ow:World->Nat->Prop)(e:Ending)(w':World):Prop:=
 match r with
 | .ok xs r=>(∃v,e= .returned v/\G w' xs v)/\PaIs P tb E r w'/\St xs w'/\ButO P (Ow w) w w'/\∀k,Ow w' k->Ow w k\/w.heap.size<=k
 | .bad err r=>e= .panicked (YT err (posE E r))/\ButO P (Ow w) w w'
def Jk{γ:Type}(F:List Tk->PR γ)(g:Nat)(rs:List Tk):PR (List γ):=if hd QG rs=true then QP F g rs.tail else .ok [] rs
theorem Zh{γ:Type}(F:List Tk->PR γ)(g:Nat)(ts:List Tk):QP F (g+1) ts=(F ts).bind fun x r=>(Jk F g r).bind fun l r=> .ok (x::l) r:=by
 rw[QP]
 cases F ts with
 |bad e r=>rfl
 |ok x r=>
  show(if hd QG r=true then _ else _)=PR.bind (Jk F g r) _
  unfold Jk
  split <;> rfl
def Nh(P:Nat)(w:World):Nat:=match w.cell? ⟨P,0,none⟩ with|some (.slice _ n _)=>n|_=>0
theorem PaIs.left{P tb:Nat}{E:Int}{ts:List Tk}{w:World}(h:PaIs P tb E ts w):Nh P w=ts.length+1:=by
 obtain⟨o,cap,c0,_⟩:=VJ h
 simp only[Nh,c0]
theorem PaIs.grown{P tb:Nat}{E:Int}{ts:List Tk}{w w':World}{row:Option Nat}(h:PaIs P tb E ts w)(hg:w.grownBy w' row)(hP:some P≠row)(ht:some tb≠row):PaIs P tb E ts w':=by
 obtain⟨o,cap,h1,h2,h3,h4,h5,h6⟩:=h
 have hPl:=(gl h1)
 have hb:=hg.block tb h2 ht
 refine⟨o,cap,(hg.block P hPl hP).trans h1,lL h2 hg.size,h3,h4,h5,fun j x hj=>?_⟩
 obtain⟨e0,e1,e2,e3,e4⟩:=h6 j x hj
 exact⟨e0,by simpa only[World.cell?,hb] using e1,by simpa only[World.cell?,hb] using e2,by simpa only[World.cell?,hb] using e3,by simpa only[World.cell?,hb] using e4⟩
end Go.Proofs.YtmnbheplkidfaaaGreatDoor
