/- Parsing: new channels. (and what follows from it) -/
import Derived.Test.YtmnbheplkidfaaaGreatDoorPw3
set_option maxHeartbeats 16000000
set_option maxRecDepth 100000
namespace Go.Proofs.YtmnbheplkidfaaaGreatDoor
open Go.Lib (hid)
open Go.RowKit Go.Shelf Go.Deep
theorem Sn(P tb:Nat)(E:Int)(ts:List Tk)(B:Nat)(w:World)(he:Env B w)(hBP:B<=P)(h:PaIs P tb E ts w)(Tf:List Tk->PR Ty)(hTl:Qr Tf)(S:List Tk->PR Pr)(n:Nat)(hn:ts.length<n)(hT:SessOK P tb E B Tf n)(hS:KQ P tb E B S n):
 Calls Tryz.prog 117 #[.pointer (some ⟨P,0,none⟩)] w (Parsed P tb E w (YV Qb Tf S ts) (GPr w.heap.size)):=by
 obtain⟨W1,HW1,hs1,hP,htb,HTB,HP,HB,HB1,HX1,HE⟩:=pro (cN 0 ⟨#[]⟩ ⟨#[]⟩ sN sN sN) 31 he h
 clear he h
 have HS:=hid hS
 clear hS
 have HT:=hid hT
 clear hT
 obtain⟨q,HQ⟩:=exq (YV Qb Tf S ts)
 rw[HQ.out]
 go_enter Tryz.func117,Tryz.ntmps117
 go_upto_region 1 with fail
 rw[HW1.out]
 go_upto_region 7 with(first|(go_at_call 52;refine(expC HP HB).mono ?_;rintro _ wn (⟨_,_,h0,rfl,l0,HP,HB⟩|⟨er,r,h0,rfl,HB⟩))|(have _:=ha0;go_at_call 78;refine(namC HP HB (HE.out.but HB.out hBP)).mono ?_;rintro _ wn (⟨b,_,hb0,rfl,l0,hbz,HP,HB⟩|⟨er,r,hb0,rfl,HB⟩))|(go_at_call 78;refine(namC HP HB (HE.out.but HB.out hBP)).mono ?_;rintro _ wn (⟨a,_,ha0,rfl,l0,haz,HP,HB⟩|⟨er,r,ha0,rfl,HB⟩))|(go_at_call 68;refine(HT.out _ _ (by omega) (HE.out.but HB.out hBP) HP.out).mono ?_;rintro _ wn h;have hz:=HB.out.size;rcases Parsed.part HB h with⟨t,_,v,h0,rfl,hg,HP,HB⟩|⟨er,r,h0,rfl,HB⟩;obtain⟨la,ln,lc,ka,kn,kc,rfl⟩:=hg.open;have HG:=hid (hg.mono hz);clear hg;have lt:=hTl _ _ _ h0))
 any_goals (first|(obtain rfl:q= .bad er r:=HQ.out.symm.trans (by simp[YV,PR.bind, *]);exact⟨rfl,rfl,(But.of HB1.out).trans HB.out⟩)|fail)
 obtain⟨W4,HW4,hl4,hn4,hsz,HB4,HP,HB,HC,HX4⟩:=box (cT t la ln lc ka kn kc) 28 HP HB (Nat.lt_trans hP hs1)
 rw[HW4.out]
 have HGT:=hid (HG.out.but (But.of (P:=P) HB4.out) (Nat.lt_trans hP hs1))
 clear HG HW4 HB4
 obtain⟨T6,hT6⟩:=exw wn.heap.size
 rw[hT6] at HX4 hl4 hn4 hsz |-
 clear hT6
 go_upto_region 8 with(go_at_call 52;refine(expC HP HC).mono ?_;rintro _ wn (⟨_,_,h0,rfl,l0,HP,HC⟩|⟨er,r,h0,rfl,HC⟩) <;> replace HB:=hid (HB.out.trans HC.out))
 any_goals (first|(obtain rfl:q= .bad er r:=HQ.out.symm.trans (by simp[YV,PR.bind, *]);exact⟨rfl,rfl,(But.of HB1.out).trans HB.out⟩)|fail)
 have HSS:=hid (t6 HX4 hl4 hn4)
 refine wp_region_held_drew (S:=fun W=>W.cell? ⟨T6,0,none⟩=some (.int .i64 t.k)/\W.cell? ⟨T6,1,none⟩=some (.int .i64 t.p)/\W.cell? ⟨T6,2,none⟩=some (.string t.n)/\W.cell? ⟨T6,3,none⟩=some (.int .i64 t.s)/\W.cell? ⟨T6,4,none⟩=some (.slice la ln lc)/\W.cell? ⟨T6,5,none⟩=some (.slice ka kn kc)) (by kernel_rfl) (HSS.out _ HC.out.drew) (fun _=>?_)
 refine Vf 0 rfl (by intro w hSw;(try dsimp only at hSw);go_simp;try rfl) ?_
 simp only[setD,sS,sZ]
 refine Vf 1 rfl (by intro w hSw;(try dsimp only at hSw);go_simp;try rfl) ?_
 simp only[setD,sS,sZ]
 refine Vf 2 rfl (by intro w hSw;(try dsimp only at hSw);go_simp;try rfl) ?_
 simp only[setD,sS,sZ]
 refine Vf 3 rfl (by intro w hSw;(try dsimp only at hSw);go_simp;try rfl) ?_
 simp only[setD,sS,sZ]
 refine Jj 4 rfl rfl (by kernel_rfl) (fun K hK=>?_)
 have hK2:=hK.out
 clear hK
 simp only[setD,sS,sZ] at hK2 |-
 go_simp
 refine(HS.out _ _ (by omega) ((HE.out.but HB.out hBP).to bR.drew) (HP.out.to bR.drew)).mono ?_
 rintro _ wm h
 have hz:=HB.out.size
 rcases Parsed.part (hid (But.refl _ _)) h with⟨p,r,v,h0,rfl,hg,HP,HD⟩|⟨er,r,h0,rfl,HD⟩
 any_goals (first|(obtain rfl:q= .bad er r:=HQ.out.symm.trans (by simp[YV,PR.bind, *]);dsimp only;exact⟨rfl,rfl,(But.of HB1.out).trans (HB.out.drew.trans HD.out)⟩)|fail)
 obtain⟨la',ln',lc',aa',an',ac',ta',tn',tc',ua',un',uc',ka',kn',kc',rfl⟩:=hg.open
 dsimp only
 have HGU:=hid (hg.mono (show W1.heap.size<=_ from hz))
 replace HC:=hid (HC.out.drew.trans HD.out)
 replace HB:=hid (HB.out.drew.trans HD.out)
 refine hK2 _ _ (HSS.out wm HC.out) (fun _=>?_)
 clear hK2 K hg HD
 refine Jj 5 rfl rfl (by kernel_rfl) (fun K hK=>?_)
 have hK2:=hK.out
 clear hK
 simp only[setD,sS,sZ] at hK2 |-
 go_simp
 obtain⟨W5,HW5,hl5,hn5,hwm,HB5,HP,-,-,HX5⟩:=box (gP p la' ln' lc' aa' an' ac' ta' tn' tc' ua' un' uc' ka' kn' kc') 31 HP HB (by omega)
 rw[HW5.out]
 refine hK2 _ _ (HSS.out W5 (HC.out.to HB5.out)) (fun _=>?_)
 clear hK2 K HW5
 refine Vf 6 rfl (by intro w hSw;(try dsimp only at hSw);go_simp;try rfl) ?_
 simp only[setD,sS,sZ]
 replace HC:=hid (HC.out.to HB5.out)
 replace HB:=hid (HB.out.to HB5.out)
 obtain⟨⟨⟨q0,q1,q2,q3,q4,q5,q6,q7,q8,q9,q10,q11⟩,z0,z1,z2,z3,z4,z5,z6,z7,z8,z9,z10,z11⟩,HX9⟩:=ZZ HX1 HB hs1 hP
 refine Jj 7 rfl rfl (by kernel_rfl) (fun K hK=>?_)
 have hK2:=hK.out
 clear hK
 simp only[setD] at hK2 |-
 go_simp
 have hT6:T6≠w.heap.size:=by omega
 obtain⟨W6,hW6⟩:=exw ((((((((((((W5.setCell ⟨w.heap.size,0,none⟩ (.int .i64 6)).setCell ⟨w.heap.size,1,none⟩ (.string a)).setCell ⟨w.heap.size,2,none⟩ (.string b)).setCell ⟨w.heap.size,3,none⟩ sN).setCell ⟨w.heap.size,4,none⟩ sN).setCell ⟨w.heap.size,5,none⟩ (.int .i64 t.k)).setCell ⟨w.heap.size,6,none⟩ (.int .i64 t.p)).setCell ⟨w.heap.size,7,none⟩ (.string t.n)).setCell ⟨w.heap.size,8,none⟩ (.int .i64 t.s)).setCell ⟨w.heap.size,9,none⟩ (.slice la ln lc)).setCell ⟨w.heap.size,10,none⟩ (.slice ka kn kc)).setCell ⟨w.heap.size,11,none⟩ (.slice (some ⟨wm.heap.size,0,none⟩) 1 1))
 have hS6:=(c6 (show W6.heap[T6]? =some (.cells (cT t la ln lc ka kn kc) 28 (0,0)) by rw[<-hW6,oth1 _ _ _ hT6,oth1 _ _ _ hT6,oth1 _ _ _ hT6,oth1 _ _ _ hT6,oth1 _ _ _ hT6,oth1 _ _ _ hT6,oth1 _ _ _ hT6,oth1 _ _ _ hT6,oth1 _ _ _ hT6,oth1 _ _ _ hT6,oth1 _ _ _ hT6,oth1 _ _ _ hT6];exact(HC.out.block T6 hl4 hn4).trans HX4.out)).1
 rw[hW6]
 refine hK2 undef W6 hS6 (fun _=>?_)
 rw[<-hW6]
 clear hS6 hW6 hK2 K q0 q1 q2 q3 q4 q5 q6 q7 q8 q9 q10 q11 z0 z1 z2 z3 z4 z5 z6 z7 z8 z9 z10 z11
 refine wpAnyH_done (by kernel_rfl) ?_ _
 go_wp2_with fail
 obtain rfl:q= .ok (.mk 6 a b [] [] t [p]) r:=HQ.out.symm.trans (by simp[YV,PR.bind, *] <;> rfl)
 refine bodyPost_ret ?_ rfl (Zn (GPr.node (t:=t) haz hbz (Jv _ _) (JK _ _) (HGT.out.but HC.out (Nat.lt_trans hP hs1)) (Fr HX5.out ⟨hwm,hl5⟩ (HGU.out.but (But.of (P:=P) HB5.out) (Nat.lt_trans hP hs1)))) hs1 hP htb HP HB1 HB)
 simp[results,Tryz.results117,go_sem,y12 HX9]
end Go.Proofs.YtmnbheplkidfaaaGreatDoor
namespace Go.Proofs.YtmnbheplkidfaaaGreatDoor
open Go.Lib (hid)
open Go.RowKit Go.Shelf
def GVl(_:World)(x:Vl)(v:Value):Prop:=v= .agg #[.int .i64 x.k,.string x.n,.int .i64 x.x]/\x.n.size<=maxLen
theorem c3{w:World}{X:Nat}{T:TypeId}{a b c:Value}(h:w.heap[X]? =some (.cells #[a,b,c] T (0,0))):(w.cell? ⟨X,0,none⟩=some a/\w.cell? ⟨X,1,none⟩=some b/\w.cell? ⟨X,2,none⟩=some c)/\w.frozen? ⟨X,0,none⟩=false/\w.frozen? ⟨X,1,none⟩=false/\w.frozen? ⟨X,2,none⟩=false:=by
 refine⟨⟨?_,?_,?_⟩,Qc h 0,Qc h 1,Qc h 2⟩ <;> simp[World.cell?,h]
abbrev put3(w:World)(X:Nat)(a b c:Value):World:=((w.setCell ⟨X,0,none⟩ a).setCell ⟨X,1,none⟩ b).setCell ⟨X,2,none⟩ c
theorem Rk{w:World}{X:Nat}{T:TypeId}{a b c:Value}(h:w.heap[X]? =some (.cells #[a,b,c] T (0,0)))(a' b' c':Value):(put3 w X a' b' c').heap[X]? =some (.cells #[a',b',c'] T (0,0)):=Qd (Qd (Qd h 0 a') 1 b') 2 c'
theorem Vi{w:World}{X k:Nat}(h:k≠X)(a b c:Value):(put3 w X a b c).heap[k]? =w.heap[k]? :=by
 rw[oth1 _ _ _ h,oth1 _ _ _ h,oth1 _ _ _ h]
theorem Xe(w:World)(X:Nat)(a b c:Value):(put3 w X a b c).heap.size=w.heap.size:=by simp[put3,World.setCell]
theorem But.put3{P X:Nat}{w w':World}(h:But P w w')(hX:w.heap.size<=X)(a b c:Value):But P w (put3 w' X a b c):=((h.setX hX 0 a).setX hX 1 b).setX hX 2 c
theorem NH{isN:ByteArray->Bool}{E:Int}{ts:List Tk}(h1:hd sTrue ts=false)(h2:hd sFalse ts=false)(hk:(hdTk E ts).k≠2):pval isN ts=(Qk isN ts).bind fun n r=> .ok (⟨1,n,0⟩:Vl) r:=by
 cases ts with
 |nil=>rfl
 |cons x r=>
  rw[pval,if_neg (by rw[show(x.t.toList==sTrue.toList)=false from h1];simp),if_neg (by rw[show(x.t.toList==sFalse.toList)=false from h2];simp),if_neg (show ¬x.k=2 from hk),Qk]
  split <;> rfl
theorem Lh{P X:Nat}{W1 W:World}{T:TypeId}{v0 v1 v2:Value}(HX1:Hid (W1.heap[X]? =some (.cells #[v0,v1,v2] T (0,0))))(HB:Hid (But P W1 W))(hs1:X<W1.heap.size)(hP:P<X):((W.cell? ⟨X,0,none⟩=some v0/\W.cell? ⟨X,1,none⟩=some v1/\W.cell? ⟨X,2,none⟩=some v2)/\W.frozen? ⟨X,0,none⟩=false/\W.frozen? ⟨X,1,none⟩=false/\W.frozen? ⟨X,2,none⟩=false)/\Hid (W.heap[X]? =some (.cells #[v0,v1,v2] T (0,0))):=
 have h:=(HB.out.block X hs1 (Nat.ne_of_gt hP)).trans HX1.out
 ⟨c3 h,hid h⟩
theorem El{P X:Nat}{W1 W:World}{T:TypeId}{v0 v1 v2 v3:Value}(HX1:Hid (W1.heap[X]? =some (.cells #[v0,v1,v2,v3] T (0,0))))(HB:Hid (But P W1 W))(hs1:X<W1.heap.size)(hP:P<X):((W.cell? ⟨X,0,none⟩=some v0/\W.cell? ⟨X,1,none⟩=some v1/\W.cell? ⟨X,2,none⟩=some v2/\W.cell? ⟨X,3,none⟩=some v3)/\W.frozen? ⟨X,0,none⟩=false/\W.frozen? ⟨X,1,none⟩=false/\W.frozen? ⟨X,2,none⟩=false/\W.frozen? ⟨X,3,none⟩=false)/\Hid (W.heap[X]? =some (.cells #[v0,v1,v2,v3] T (0,0))):=
 have h:=(HB.out.block X hs1 (Nat.ne_of_gt hP)).trans HX1.out
 ⟨c4 h,hid h⟩
theorem y3{w:World}{X:Nat}{T:TypeId}{v0 v1 v2:Value}(h:Hid (w.heap[X]? =some (.cells #[v0,v1,v2] T (0,0))))(u0 u1 u2:Value):(put3 w X u0 u1 u2).cell? ⟨X,0,none⟩=some u0/\(put3 w X u0 u1 u2).cell? ⟨X,1,none⟩=some u1/\(put3 w X u0 u1 u2).cell? ⟨X,2,none⟩=some u2:=(c3 (Rk h.out u0 u1 u2)).1
theorem ME{P tb:Nat}{E:Int}{w W1 W:World}{x:Vl}{r:List Tk}{a b c:Value}(hg:GVl W x (.agg #[a,b,c]))(hP:P<w.heap.size)(htb:tb≠w.heap.size)(HP:Hid (PaIs P tb E r W))(HB1:Hid (Below w.heap.size w W1))(HB:Hid (But P W1 W)):
 Parsed P tb E w (.ok x r) GVl (.returned (.agg #[a,b,c])) (put3 W w.heap.size a b c):=
 ⟨⟨_,rfl,hg⟩,HP.out.oth (X:=w.heap.size) (fun _ hj=>Vi hj a b c) (Xe _ _ a b c) (Nat.ne_of_gt hP) htb,((But.of HB1.out).trans HB.out).put3 lR a b c⟩
theorem Tm{isN:ByteArray->Bool}{ts:List Tk}(h1:hd sTrue ts=true):pval isN ts= .ok ⟨3,⟨#[]⟩,1⟩ ts.tail:=by
 cases ts with
 |nil=>cases h1
 |cons x r=>rw[pval,if_pos (show(x.t.toList==sTrue.toList)=true from h1)];rfl
theorem Dr{isN:ByteArray->Bool}{ts:List Tk}(h1:hd sTrue ts=false)(h2:hd sFalse ts=true):pval isN ts= .ok ⟨3,⟨#[]⟩,0⟩ ts.tail:=by
 cases ts with
 |nil=>cases h2
 |cons x r=>rw[pval,if_neg (by rw[show(x.t.toList==sTrue.toList)=false from h1];simp),if_pos (show(x.t.toList==sFalse.toList)=true from h2)];rfl
theorem Sa{isN:ByteArray->Bool}{ts r:List Tk}{k v a:Int}{u:ByteArray}(h1:hd sTrue ts=false)(h2:hd sFalse ts=false)(hk:(k==2)=true)(hts:ts=⟨k,u,v,a⟩::r):pval isN ts= .ok ⟨2,⟨#[]⟩,v⟩ r:=by
 subst hts
 rw[pval,if_neg (by rw[show(u.toList==sTrue.toList)=false from h1];simp),if_neg (by rw[show(u.toList==sFalse.toList)=false from h2];simp),if_pos (by simpa using hk)]
theorem Fm(P tb:Nat)(E:Int)(ts:List Tk)(B:Nat)(w:World)(he:Env B w)(hBP:B<=P)(h:PaIs P tb E ts w):
 Calls Tryz.prog 142 #[.pointer (some ⟨P,0,none⟩)] w (Parsed P tb E w (pval Qb ts) GVl):=by
 obtain⟨W1,HW1,hs1,hP,htb,HTB,HP,HB,HB1,HX1,HE⟩:=pro #[.int .i64 0,.string ⟨#[]⟩,.int .i64 0] 82 he h
 clear he h
 have HN:=hid (YM P tb E ts W1 HP.out)
 obtain⟨⟨k,u,v,a⟩,hx⟩:=exw (hdTk E ts)
 rw[hx] at HN
 obtain⟨hk,r0,hts⟩|hk:((k==2)=true/\∃r,ts=⟨k,u,v,a⟩::r)\/(k==2)=false:=by
  cases hk:(k==2)
  ·exact .inr rfl
  ·refine .inl ⟨rfl,?_⟩
   cases ts with
   |nil=>cases hx;cases hk
   |cons x r=>exact⟨r,by rw[<-hx];rfl⟩
 all_goals
  obtain⟨q,HQ⟩:=exq (pval Qb ts)
  rw[HQ.out]
  go_enter Tryz.func142,Tryz.ntmps142
  go_upto_region 1 with fail
  rw[HW1.out]
  go_upto_region 2 with(go_at_call 76;refine HN.out.mono ?_;rintro en w2⟨rfl,hp⟩;replace HP:=hid (HP.out.to hp);replace HB:=hid (HB.out.to hp);clear hp)
  obtain⟨W3,HW3,hl3,hn3,hl13,HB3,HP,HB,HC,HX3⟩:=box #[.int .i64 k,.string u,.int .i64 v,.int .i64 a] 99 HP HB (Nat.lt_trans hP hs1)
  rw[HW3.out]
  have hX:=hid hx
  clear hx
  go_wp2_with (first|(go_at_call 50;refine(takC HP HC).mono ?_;rintro _ wn (⟨h0,rfl,HP,HC⟩|⟨h0,rfl,HP,HC⟩) <;> (obtain⟨⟨⟨d0,d1,d2,d3⟩,-⟩,-⟩:=El HX3 HC hl3 (by omega);obtain⟨⟨⟨q0,q1,q2⟩,z0,z1,z2⟩,HX9⟩:=Lh HX1 (hid (HB.out.trans HC.out)) hs1 hP))|(go_at_call 78;refine(namC HP HC (HE.out.but (HB.out.trans HC.out) hBP)).mono ?_;rintro _ wn (⟨n,r,hn,rfl,l0,hnz,HP,HC⟩|⟨er,r,hn,rfl,HC⟩);obtain⟨⟨⟨q0,q1,q2⟩,z0,z1,z2⟩,HX9⟩:=Lh HX1 (hid (HB.out.trans HC.out)) hs1 hP)|(go_at_call 77;refine(YK P tb E ⟨k,u,v,a⟩ r0 _ (by rw[<-hts];exact HP.out)).mono ?_;rintro _ wn⟨rfl,hp,hb⟩;replace HP:=hid hp;replace HC:=hid (HC.out.trans hb);clear hp hb;obtain⟨⟨⟨d0,d1,d2,d3⟩,-⟩,-⟩:=El HX3 HC hl3 (by omega);obtain⟨⟨⟨q0,q1,q2⟩,z0,z1,z2⟩,HX9⟩:=Lh HX1 (hid (HB.out.trans HC.out)) hs1 hP))
 all_goals first
  |(obtain rfl:q= .ok ⟨3,⟨#[]⟩,1⟩ ts.tail:=HQ.out.symm.trans (Tm (by assumption));refine bodyPost_ret ?_ rfl (ME ⟨rfl,Nat.zero_le _⟩ hP htb HP HB1 (hid (HB.out.trans HC.out)));simp[results,Tryz.results142,go_sem,y3 HX9];done)
  |(obtain rfl:q= .ok ⟨3,⟨#[]⟩,0⟩ ts.tail:=HQ.out.symm.trans (Dr (by assumption) (by assumption));refine bodyPost_ret ?_ rfl (ME ⟨rfl,Nat.zero_le _⟩ hP htb HP HB1 (hid (HB.out.trans HC.out)));simp[results,Tryz.results142,go_sem,y3 HX9];done)
  |(obtain rfl:q= .ok ⟨2,⟨#[]⟩,v⟩ r0:=HQ.out.symm.trans (Sa (by assumption) (by assumption) hk hts);refine bodyPost_ret ?_ rfl (ME ⟨rfl,Nat.zero_le _⟩ hP htb HP HB1 (hid (HB.out.trans HC.out)));simp[results,Tryz.results142,go_sem,y3 HX9];done)
  |(obtain rfl:q= .ok ⟨1,n,0⟩ r:=HQ.out.symm.trans ((NH (E:=E) (by assumption) (by assumption) (by rw[hX.out];simpa using hk)).trans (by rw[hn];rfl));refine bodyPost_ret ?_ rfl (ME ⟨rfl,hnz⟩ hP htb HP HB1 (hid (HB.out.trans HC.out)));simp[results,Tryz.results142,go_sem,y3 HX9];done)
  |(obtain rfl:q= .bad er r:=HQ.out.symm.trans ((NH (E:=E) (by assumption) (by assumption) (by rw[hX.out];simpa using hk)).trans (by rw[hn];rfl));exact⟨rfl,rfl,(But.of HB1.out).trans (HB.out.trans HC.out)⟩)
  |fail
end Go.Proofs.YtmnbheplkidfaaaGreatDoor
namespace Go.Proofs.YtmnbheplkidfaaaGreatDoor
open Go.Lib (hid)
open Go.RowKit Go.Shelf Go.Deep
theorem Gh{P:Program}{md:Region.Mode}{l:List Oper}{Q:Exit->Act->World->Prop}{S:World->Prop}{fuel:Nat}{B:List Bool}{T:List Value}{ds:List Deferred}{w:World}(i i':Nat){o o':Oper}(ho:l[i]? =some o)(ho':l[i']? =some o')(hg:o.guard=none)(hg':o'.guard=none)
 (hr:Region.ready md l.toArray B.toArray=[i,i'])
 (h:∀K:Act->World->Prop,Shut (∀v w',S w'->(S w'->wpAnyH P md l.toArray Q S fuel (B.set i true).toArray ⟨(setD T o.dst v).toArray,ds⟩ w')->K ⟨(setD T o.dst v).toArray,ds⟩ w')->Oper.wp P o ⟨T.toArray,ds⟩ w K Q)
 (h':∀K:Act->World->Prop,Shut (∀v w',S w'->(S w'->wpAnyH P md l.toArray Q S fuel (B.set i' true).toArray ⟨(setD T o'.dst v).toArray,ds⟩ w')->K ⟨(setD T o'.dst v).toArray,ds⟩ w')->Oper.wp P o' ⟨T.toArray,ds⟩ w K Q):
 wpAnyH P md l.toArray Q S (fuel+1) B.toArray ⟨T.toArray,ds⟩ w:=by
 refine wpAnyH_all hr (by simp) (fun j hj=>?_)
 rcases List.mem_cons.1 hj with rfl|hj
 ·have ho1:l.toArray[j]? =some o:=by simpa using ho
  have hw:Region.wanted o (yielded l.toArray T.toArray)=true:=by simp[Region.wanted,hg]
  unfold wpOp
  simp only[ho1]
  rw[if_pos hw]
  refine .inl (h _ (fun v w' h1 h2=>?_))
  refine⟨h1,?_⟩
  rw[List.setIfInBounds_toArray]
  exact h2 h1
 ·obtain rfl:=mS hj
  have ho1:l.toArray[j]? =some o':=by simpa using ho'
  have hw:Region.wanted o' (yielded l.toArray T.toArray)=true:=by simp[Region.wanted,hg']
  unfold wpOp
  simp only[ho1]
  rw[if_pos hw]
  refine .inl (h' _ (fun v w' h1 h2=>?_))
  refine⟨h1,?_⟩
  rw[List.setIfInBounds_toArray]
  exact h2 h1
theorem Ww{B:Nat->Prop}{W:World}{b:Nat}{T:TypeId}{fr:Nat×Nat}{v:Vl}(h:W.heap[b]? =some (.cells #[.int .i64 v.k,.string v.n,.int .i64 v.x] T fr))(hb:B b)(hv:v.n.size<=maxLen):VlSl B W (.slice (some ⟨b,0,none⟩) 1 1) [v]:=by
 have cell:∀i u,[Value.int .i64 v.k,.string v.n,.int .i64 v.x][i]? =some u->W.cell? ⟨b,i,none⟩=some u:=by
  intro i u hi
  simp only[World.cell?,h]
  simpa using hi
 refine⟨.inr ⟨b,0,1,rfl,hb,lR,fun j a hj=>?_⟩,by simp[maxLen],fun a ha=>by rw[mS ha];exact hv⟩
 cases j with
 |zero=>
  obtain rfl:v=a:=by simpa using hj
  exact⟨cell 0 _ rfl,cell 1 _ rfl,cell 2 _ rfl⟩
 |succ j=>simp at hj
theorem XP{isN:ByteArray->Bool}:Qr (pval isN):=by
 intro ts x r h
 cases ts with
 |nil=>cases h
 |cons y s=>
  rw[pval] at h
  split at h
  ·cases h;simp
  split at h
  ·cases h;simp
  split at h
  ·cases h;simp
  split at h
  ·cases h;simp
  ·cases h
theorem t3{P T6:Nat}{W4:World}{T:TypeId}{a b c:Value}(HX4:Hid (W4.heap[T6]? =some (.cells #[a,b,c] T (0,0))))(hl4:T6<W4.heap.size)(hn4:T6≠P)(W:World)(hW:But P W4 W):W.cell? ⟨T6,0,none⟩=some a/\W.cell? ⟨T6,1,none⟩=some b/\W.cell? ⟨T6,2,none⟩=some c:=(c3 ((hW.block T6 hl4 hn4).trans HX4.out)).1
theorem Tt(P tb:Nat)(E:Int)(ts:List Tk)(B:Nat)(w:World)(he:Env B w)(hBP:B<=P)(h:PaIs P tb E ts w)(S:List Tk->PR Pr)(n:Nat)(hn:ts.length<n)(hS:KQ P tb E B S n)(c:ByteArray)(hcz:c.size<=maxLen):
 Calls Tryz.prog 137 #[.pointer (some ⟨P,0,none⟩),.string c] w (Parsed P tb E w (ZC Qb S c ts) (GPr w.heap.size)):=by
 obtain⟨W1,HW1,hs1,hP,htb,HTB,HP,HB,HB1,HX1,HE⟩:=pro (cN 0 ⟨#[]⟩ ⟨#[]⟩ sN sN sN) 31 he h
 clear he h
 have HS:=hid hS
 clear hS
 obtain⟨q,HQ⟩:=exq (ZC Qb S c ts)
 rw[HQ.out]
 go_enter Tryz.func137,Tryz.ntmps137
 go_upto_region 1 with fail
 rw[HW1.out]
 go_upto_region 3 with(first|(go_at_call 52;refine(expC HP HB).mono ?_;rintro _ wn (⟨_,_,h0,rfl,l0,HP,HB⟩|⟨er,r,h0,rfl,HB⟩))|(go_at_call 142;refine(Fm P tb E _ B _ (HE.out.but HB.out hBP) hBP HP.out).mono ?_;rintro _ wn h;have hz:=HB.out.size;rcases Parsed.part HB h with⟨x,_,v,h0,rfl,hg,HP,HB⟩|⟨er,r,h0,rfl,HB⟩;obtain⟨rfl,hvz⟩:=hg;have l3:=XP _ _ _ h0))
 any_goals (first|(obtain rfl:q= .bad er r:=HQ.out.symm.trans (by simp[ZC,PR.bind, *]);exact⟨rfl,rfl,(But.of HB1.out).trans HB.out⟩)|fail)
 obtain⟨W4,HW4,hl4,hn4,hsz,-,HP,HB,HC,HX4⟩:=box #[.int .i64 x.k,.string x.n,.int .i64 x.x] 82 HP HB (Nat.lt_trans hP hs1)
 rw[HW4.out]
 clear HW4
 obtain⟨T6,hT6⟩:=exw wn.heap.size
 rw[hT6] at HX4 hl4 hn4 hsz |-
 clear hT6
 go_upto_region 4 with(go_at_call 52;refine(expC HP HC).mono ?_;rintro _ wn (⟨_,_,h0,rfl,l0,HP,HC⟩|⟨er,r,h0,rfl,HC⟩) <;> replace HB:=hid (HB.out.trans HC.out))
 any_goals (first|(obtain rfl:q= .bad er r:=HQ.out.symm.trans (by simp[ZC,PR.bind, *]);exact⟨rfl,rfl,(But.of HB1.out).trans HB.out⟩)|fail)
 have HSS:=hid (t3 HX4 hl4 hn4)
 refine wp_region_held_drew (S:=fun W=>W.cell? ⟨T6,0,none⟩=some (.int .i64 x.k)/\W.cell? ⟨T6,1,none⟩=some (.string x.n)/\W.cell? ⟨T6,2,none⟩=some (.int .i64 x.x)) (by kernel_rfl) (HSS.out _ HC.out.drew) (fun _=>?_)
 refine Vf 0 rfl (by intro w hSw;(try dsimp only at hSw);go_simp;try rfl) ?_
 simp only[setD,sS,sZ]
 refine Vf 1 rfl (by intro w hSw;(try dsimp only at hSw);go_simp;try rfl) ?_
 simp only[setD,sS,sZ]
 refine Vf 3 rfl (by intro w hSw;(try dsimp only at hSw);go_simp;try rfl) ?_
 simp only[setD,sS,sZ]
 refine Gh 2 4 rfl rfl rfl rfl (by kernel_rfl) (fun K hK=>?_) (fun K hK=>?_)
 have hK2:=hK.out
 clear hK
 simp only[setD,sS,sZ] at hK2 |-
 go_simp
 obtain⟨b9,hb9⟩:=exw wn.heap.size
 obtain⟨W5,hW5⟩:=exw ((wn.alloc (.cells #[.int .i64 x.k,.string x.n,.int .i64 x.x] 82)).drew)
 have hb5:Below wn.heap.size wn W5:=by rw[<-hW5];exact(bR.alloc lR _).drew
 have x5:W5.heap[b9]? =some (.cells #[.int .i64 x.k,.string x.n,.int .i64 x.x] 82 (0,0)):=by rw[<-hW5,<-hb9];exact World.alloc_heap_new _ _
 rw[hW5,hb9]
 have hlb:b9<W5.heap.size:=(gl x5)
 have hWb:W1.heap.size<=b9:=by rw[<-hb9];exact HB.out.size
 refine hK2 _ _ (HSS.out W5 (HC.out.to hb5)) (fun _=>?_)
 clear hK2 K hW5 hb9
 refine Jj 4 rfl rfl (by kernel_rfl) (fun K hK=>?_)
 have hK2:=hK.out
 clear hK
 simp only[setD,sS,sZ] at hK2 |-
 go_simp
 refine(Vr P tb E _ B _ (HE.out.but (HB.out.to hb5) hBP) hBP (HP.out.to hb5) S n (by omega) HS.out).mono ?_
 rintro _ wm h
 have hz:=((HB.out.to hb5)).size
 rcases Parsed.part (hid (But.refl _ _)) h with⟨p,r,v,h0,rfl,hg,HP,HD⟩|⟨er,r,h0,rfl,HD⟩
 any_goals (first|(obtain rfl:q= .bad er r:=HQ.out.symm.trans (by simp[ZC,PR.bind, *]);dsimp only;exact⟨rfl,rfl,(But.of HB1.out).trans (((HB.out.to hb5)).trans HD.out)⟩)|fail)
 obtain⟨ka,kn,kc,rfl,-⟩:=PrSl.open hg
 dsimp only
 have HGU:=hid (GPrs.mono hg hz)
 replace HC:=hid ((HC.out.to hb5).trans HD.out)
 replace HB:=hid ((HB.out.to hb5).trans HD.out)
 have HX7:=hid ((HD.out.block b9 hlb (show b9≠P by omega)).trans x5)
 refine hK2 _ _ (HSS.out wm HC.out) (fun hH=>?_)
 obtain⟨W7,hW7⟩:=exw wm
 rw[hW7] at HP HGU HC HB HX7 hH |-
 clear hK2 K hg HD hW7 hb5 x5 hlb
 rotate_left 1
 have hK2:=hK.out
 clear hK
 simp only[setD,sS,sZ] at hK2 |-
 go_simp
 refine(Vr P tb E _ B _ (HE.out.but HB.out.drew hBP) hBP (HP.out.to bR.drew) S n (by omega) HS.out).mono ?_
 rintro _ wm h
 have hz:=(HB.out.drew).size
 rcases Parsed.part (hid (But.refl _ _)) h with⟨p,r,v,h0,rfl,hg,HP,HD⟩|⟨er,r,h0,rfl,HD⟩
 any_goals (first|(obtain rfl:q= .bad er r:=HQ.out.symm.trans (by simp[ZC,PR.bind, *]);dsimp only;exact⟨rfl,rfl,(But.of HB1.out).trans ((HB.out.drew).trans HD.out)⟩)|fail)
 obtain⟨ka,kn,kc,rfl,-⟩:=PrSl.open hg
 dsimp only
 have HGU:=hid (GPrs.mono hg hz)
 replace HC:=hid (HC.out.drew.trans HD.out)
 replace HB:=hid (HB.out.drew.trans HD.out)
 refine hK2 _ _ (HSS.out wm HC.out) (fun _=>?_)
 clear hK2 K hg HD
 refine Jj 2 rfl rfl (by kernel_rfl) (fun K hK=>?_)
 have hK2:=hK.out
 clear hK
 simp only[setD,sS,sZ] at hK2 |-
 go_simp
 obtain⟨b9,hb9⟩:=exw wm.heap.size
 obtain⟨W5,hW5⟩:=exw (wm.alloc (.cells #[.int .i64 x.k,.string x.n,.int .i64 x.x] 82))
 have hb5:=(made hW5).1
 have x5:W5.heap[b9]? =some (.cells #[.int .i64 x.k,.string x.n,.int .i64 x.x] 82 (0,0)):=by rw[<-hW5,<-hb9];exact World.alloc_heap_new _ _
 rw[hW5,hb9]
 have hWb:W1.heap.size<=b9:=by rw[<-hb9];exact HB.out.size
 refine hK2 _ _ (HSS.out W5 (HC.out.to hb5)) (fun hH=>?_)
 replace HP:=hid (HP.out.to hb5)
 replace HGU:Hid (GPrs W1.heap.size W5 [p] (.slice ka kn kc)):=hid ((PrSl.keep ((But.of (P:=P) hb5).keeps (fun k hk=>⟨hk.2,by omega⟩)) HGU.out).mono (fun k hk=>⟨hk.1,lL hk.2 hb5.size⟩))
 replace HC:=hid (HC.out.to hb5)
 replace HB:=hid (HB.out.to hb5)
 have HX7:=hid x5
 obtain⟨W7,hW7⟩:=exw W5
 rw[hW7] at HP HGU HC HB HX7 hH |-
 clear hK2 K hW5 hb5 hW7 hb9 x5
 all_goals
  refine Vf 5 rfl (by intro w hSw;(try dsimp only at hSw);go_simp;try rfl) ?_
  simp only[setD,sS,sZ]
  obtain⟨⟨⟨q0,q1,q2,q3,q4,q5,q6,q7,q8,q9,q10,q11⟩,z0,z1,z2,z3,z4,z5,z6,z7,z8,z9,z10,z11⟩,HX9⟩:=ZZ HX1 HB hs1 hP
  refine Jj 6 rfl rfl (by kernel_rfl) (fun K hK=>?_)
  have hK2:=hK.out
  clear hK
  simp only[setD] at hK2 |-
  go_simp
  have hT6:T6≠w.heap.size:=by omega
  obtain⟨W6,hW6⟩:=exw ((((((((((((W7.setCell ⟨w.heap.size,0,none⟩ (.int .i64 2)).setCell ⟨w.heap.size,1,none⟩ (.string c)).setCell ⟨w.heap.size,2,none⟩ tE).setCell ⟨w.heap.size,3,none⟩ sN).setCell ⟨w.heap.size,4,none⟩ (.slice (some ⟨b9,0,none⟩) 1 1)).setCell ⟨w.heap.size,5,none⟩ iZ).setCell ⟨w.heap.size,6,none⟩ iZ).setCell ⟨w.heap.size,7,none⟩ tE).setCell ⟨w.heap.size,8,none⟩ iZ).setCell ⟨w.heap.size,9,none⟩ sN).setCell ⟨w.heap.size,10,none⟩ sN).setCell ⟨w.heap.size,11,none⟩ (.slice ka kn kc))
  have hS6:=(c3 (show W6.heap[T6]? =some (.cells #[.int .i64 x.k,.string x.n,.int .i64 x.x] 82 (0,0)) by rw[<-hW6,oth1 _ _ _ hT6,oth1 _ _ _ hT6,oth1 _ _ _ hT6,oth1 _ _ _ hT6,oth1 _ _ _ hT6,oth1 _ _ _ hT6,oth1 _ _ _ hT6,oth1 _ _ _ hT6,oth1 _ _ _ hT6,oth1 _ _ _ hT6,oth1 _ _ _ hT6,oth1 _ _ _ hT6];exact(HC.out.block T6 hl4 hn4).trans HX4.out)).1
  rw[hW6]
  refine hK2 undef W6 hS6 (fun _=>?_)
  rw[<-hW6]
  clear hS6 hW6 hK2 K q0 q1 q2 q3 q4 q5 q6 q7 q8 q9 q10 q11 z0 z1 z2 z3 z4 z5 z6 z7 z8 z9 z10 z11
  refine wpAnyH_done (by kernel_rfl) ?_ _
  go_wp2_with fail
  obtain rfl:q= .ok (.mk 2 c ⟨#[]⟩ [] [x] zT [p]) r:=HQ.out.symm.trans (by simp[ZC,PR.bind, *] <;> rfl)
  refine bodyPost_ret ?_ rfl (Zn (GPr.node (t:=zT) hcz (Nat.zero_le _) (Jv _ _) (Ww HX7.out ⟨hWb,(gl HX7.out)⟩ hvz) (YF _ _) HGU.out) hs1 hP htb HP HB1 HB)
  simp[results,Tryz.results137,go_sem,y12 HX9]
end Go.Proofs.YtmnbheplkidfaaaGreatDoor
namespace Go.Proofs.YtmnbheplkidfaaaGreatDoor
open Go.Lib (hid)
open Go.RowKit Go.Shelf
def Yr(PF SC:List Tk->PR Pr)(NF:ByteArray->List Tk->PR Pr)(ts:List Tk):PR Pr:=
 if hd Mx ts=true then .ok (.mk 1 ⟨#[]⟩ ⟨#[]⟩ [] [] zT []) ts.tail
 else if hd QI ts=true then (PF ts.tail).bind fun p r=>(need Qy r).bind fun _ r=> .ok p r
 else if hd sNew ts=true then SC ts.tail
 else (Qk Qb ts).bind fun c r=>NF c r
def Nt(P tb:Nat)(E:Int)(B:Nat)(S:List Tk->PR Pr)(n:Nat):Prop:=∀(ts:List Tk) (W:World),ts.length<n->Env B W->PaIs P tb E ts W->Calls Tryz.prog 31 #[.pointer (some ⟨P,0,none⟩)] W (Parsed P tb E W (S ts) (GPr W.heap.size))
def Ea(P tb:Nat)(E:Int)(B:Nat)(S:List Tk->PR Pr)(n:Nat):Prop:=∀(ts:List Tk) (W:World),ts.length<n->Env B W->PaIs P tb E ts W->Calls Tryz.prog 117 #[.pointer (some ⟨P,0,none⟩)] W (Parsed P tb E W (S ts) (GPr W.heap.size))
def Ee(P tb:Nat)(E:Int)(B:Nat)(S:ByteArray->List Tk->PR Pr)(n:Nat):Prop:=∀(c:ByteArray) (ts:List Tk) (W:World),c.size<=maxLen->ts.length<n->Env B W->PaIs P tb E ts W->Calls Tryz.prog 118 #[.pointer (some ⟨P,0,none⟩),.string c] W (Parsed P tb E W (S c ts) (GPr W.heap.size))
theorem XQ(B:Nat->Prop)(w:World):PrSl B w sN []:=⟨.inl ⟨⟨_,_,rfl⟩,rfl⟩,Nat.zero_le _⟩
theorem Ts(P tb:Nat)(E:Int)(ts:List Tk)(B:Nat)(w:World)(he:Env B w)(hBP:B<=P)(h:PaIs P tb E ts w)(PF SC:List Tk->PR Pr)(NF:ByteArray->List Tk->PR Pr)(n:Nat)(hn:ts.length<=n)(hF:Nt P tb E B PF n)(hS:Ea P tb E B SC n)(hN:Ee P tb E B NF n):
 Calls Tryz.prog 91 #[.pointer (some ⟨P,0,none⟩)] w (Parsed P tb E w (Yr PF SC NF ts) (GPr w.heap.size)):=by
 obtain⟨W1,HW1,hs1,hP,htb,HTB,HP,HB,HB1,HX1,HE⟩:=pro (cN 0 ⟨#[]⟩ ⟨#[]⟩ sN sN sN) 31 he h
 clear he h
 have HF:=hid hF
 have HS:=hid hS
 have HN:=hid hN
 clear hF hS hN
 obtain⟨q,HQ⟩:=exq (Yr PF SC NF ts)
 rw[HQ.out]
 go_enter Tryz.func91,Tryz.ntmps91
 go_upto_region 1 with fail
 rw[HW1.out]
 go_upto_region 5 with(first|(go_at_call 50;refine(takC HP HB).mono ?_;rintro _ wn (⟨h0,rfl,HP,HB⟩|⟨h0,rfl,HP,HB⟩) <;> (try have l0:=QH h0) <;> obtain⟨⟨⟨q0,q1,q2,q3,q4,q5,q6,q7,q8,q9,q10,q11⟩,z0,z1,z2,z3,z4,z5,z6,z7,z8,z9,z10,z11⟩,HX9⟩:=ZZ HX1 HB hs1 hP)|(go_at_call 31;refine(HF.out _ _ (by omega) (HE.out.but HB.out hBP) HP.out).mono ?_;rintro _ wn h;have hz:=HB.out.size;rcases Parsed.part HB h with⟨p,_,v,h0,rfl,hg,HP,HB⟩|⟨er,r,h0,rfl,HB⟩;obtain⟨la,ln,lc,aa,an,ac,ta,tn,tc,ua,un,uc,ka,kn,kc,rfl⟩:=hg.open;have HG:=hid (hg.mono hz);clear hg)|(go_at_call 117;refine(HS.out _ _ (by omega) (HE.out.but HB.out hBP) HP.out).mono ?_;rintro _ wn h;have hz:=HB.out.size;rcases Parsed.part HB h with⟨p,r,v,h0,rfl,hg,HP,HB⟩|⟨er,r,h0,rfl,HB⟩;obtain⟨la,ln,lc,aa,an,ac,ta,tn,tc,ua,un,uc,ka,kn,kc,rfl⟩:=hg.open;have HG:=hid (hg.mono hz);clear hg;obtain⟨⟨⟨q0,q1,q2,q3,q4,q5,q6,q7,q8,q9,q10,q11⟩,z0,z1,z2,z3,z4,z5,z6,z7,z8,z9,z10,z11⟩,HX9⟩:=ZZ HX1 HB hs1 hP)|(go_at_call 78;refine(namC HP HB (HE.out.but HB.out hBP)).mono ?_;rintro _ wn (⟨c,_,h0,rfl,l0,hcz,HP,HB⟩|⟨er,r,h0,rfl,HB⟩))|(go_at_call 118;refine(HN.out _ _ _ hcz (by omega) (HE.out.but HB.out hBP) HP.out).mono ?_;rintro _ wn h;have hz:=HB.out.size;rcases Parsed.part HB h with⟨p,r,v,h0,rfl,hg,HP,HB⟩|⟨er,r,h0,rfl,HB⟩;obtain⟨la,ln,lc,aa,an,ac,ta,tn,tc,ua,un,uc,ka,kn,kc,rfl⟩:=hg.open;have HG:=hid (hg.mono hz);clear hg;obtain⟨⟨⟨q0,q1,q2,q3,q4,q5,q6,q7,q8,q9,q10,q11⟩,z0,z1,z2,z3,z4,z5,z6,z7,z8,z9,z10,z11⟩,HX9⟩:=ZZ HX1 HB hs1 hP))
 any_goals (first|(obtain rfl:q= .bad er r:=HQ.out.symm.trans (by simp[Yr,PR.bind, *]);exact⟨rfl,rfl,(But.of HB1.out).trans HB.out⟩)|fail)
 any_goals (first|(obtain rfl:q= .ok (.mk 1 ⟨#[]⟩ ⟨#[]⟩ [] [] zT []) ts.tail:=HQ.out.symm.trans (by simp[Yr, *];done);refine bodyPost_ret ?_ rfl (Zn (GPr.node (t:=zT) (Nat.zero_le _) (Nat.zero_le _) (Jv _ _) (JK _ _) (YF _ _) (XQ _ _)) hs1 hP htb HP HB1 HB);simp[results,Tryz.results91,go_sem,y12 HX9];done)|(obtain rfl:q= .ok (p) r:=HQ.out.symm.trans (by simp[Yr,PR.bind, *];done);refine bodyPost_ret ?_ rfl (Zn (HG.out) hs1 hP htb HP HB1 HB);simp[results,Tryz.results91,go_sem,y12 HX9];done)|fail)
 obtain⟨W4,HW4,hl4,hn4,hsz,HB4,HP,HB,HC,HX4⟩:=box (gP p la ln lc aa an ac ta tn tc ua un uc ka kn kc) 31 HP HB (by omega)
 rw[HW4.out]
 have HGT:=hid (HG.out.but (But.of (P:=P) HB4.out) (Nat.lt_trans hP hs1))
 clear HG HW4 HB4
 obtain⟨T6,hT6⟩:=exw wn.heap.size
 rw[hT6] at HX4 hl4 hn4 hsz |-
 clear hT6
 go_wp2_with (go_at_call 52;refine(expC HP HC).mono ?_;rintro _ wn (⟨_,r,h0,rfl,l0,HP,HC⟩|⟨er,r,h0,rfl,HC⟩) <;> (replace HB:=hid (HB.out.trans HC.out);obtain⟨⟨⟨d0,d1,d2,d3,d4,d5,d6,d7,d8,d9,d10,d11⟩,-⟩,-⟩:=ZZ HX4 HC hl4 (by omega);obtain⟨⟨⟨q0,q1,q2,q3,q4,q5,q6,q7,q8,q9,q10,q11⟩,z0,z1,z2,z3,z4,z5,z6,z7,z8,z9,z10,z11⟩,HX9⟩:=ZZ HX1 HB hs1 hP))
 any_goals (first|(obtain rfl:q= .bad er r:=HQ.out.symm.trans (by simp[Yr,PR.bind, *]);exact⟨rfl,rfl,(But.of HB1.out).trans HB.out⟩)|fail)
 obtain rfl:q= .ok (p) r:=HQ.out.symm.trans (by simp[Yr,PR.bind, *] <;> rfl)
 refine bodyPost_ret ?_ rfl (Zn (HGT.out.but HC.out (Nat.lt_trans hP hs1)) hs1 hP htb HP HB1 HB)
 simp[results,Tryz.results91,go_sem,y12 HX9]
end Go.Proofs.YtmnbheplkidfaaaGreatDoor
namespace Go.Proofs.YtmnbheplkidfaaaGreatDoor
def RailSt(L:Nat->Bool)(vals:Nat->Value)(w:World):List (Nat×(Value->World->Prop))->(World->Prop)->Prop
 |[],Cur=>Cur w
 |(k,P)::r,Cur=>(L k=true/\RailSt L vals w r (P (vals k)))\/(L k=false/\(∀x∈r,L x.1=false)/\Cur w)
def QR(vals:Nat->Value):List (Nat×(Value->World->Prop))->(World->Prop)->World->Prop
 |[],Cur=>Cur
 |(k,P)::r,_=>QR vals r (P (vals k))
structure Rail(dep:List (Nat×Nat))(ps:List (Nat×Value))(cs:List (Nat×(Value->World->Prop)))(S0:World->Prop)(L:Nat->Bool)(vals:Nat->Value)(w:World):Prop where
 dn:∀x∈dep,L x.1=true->L x.2=true
 pv:∀x∈ps,L x.1=true->vals x.1=x.2
 st:RailSt L vals w cs S0
section
variable {L:Nat->Bool} {vals:Nat->Value} {w w':World}
theorem RailSt.at_{k:Nat}{P:Value->World->Prop}{post:List (Nat×(Value->World->Prop))}(hk:L k=false):∀(pre:List (Nat×(Value->World->Prop))) (Cur:World->Prop),RailSt L vals w (pre++(k,P)::post) Cur->(∀j,pre.getLast?=some j->L j.1=true)->
 QR vals pre Cur w/\(∀j∈pre,L j.1=true)/\(∀j∈post,L j.1=false)
 |[],Cur,h,_=>by
  rcases h with⟨h,_⟩|⟨_,h1,h2⟩
  ·rw[hk] at h;cases h
  ·exact⟨h2,(fun _ h=>by cases h),h1⟩
 |(i,Q)::r,Cur,h,hl=>by
  rcases h with⟨h1,h2⟩|⟨h1,h2,_⟩
  ·obtain⟨a,b,c⟩:=RailSt.at_ hk r _ h2 (fun j hj=>hl j (by cases r with
    |nil=>cases hj
    |cons x r=>rw[List.getLast?_cons_cons];exact hj))
   refine⟨a,fun j hj=>?_,c⟩
   rcases List.mem_cons.1 hj with rfl|hj
   ·exact h1
   ·exact b j hj
  ·exfalso
   cases hr:((i,Q)::r).getLast? with
   |none=>simp at hr
   |some j=>
    have hj:=hl j hr
    rcases List.mem_cons.1 (List.mem_of_getLast? hr) with rfl|hm
    ·rw[h1] at hj;cases hj
    ·rw[h2 j (List.mem_append_left _ hm)] at hj;cases hj
theorem RailSt.off:∀(cs:List (Nat×(Value->World->Prop))) (Cur:World->Prop),(∀j∈cs,L j.1=false)->Cur w->RailSt L vals w cs Cur
 |[],_,_,h=>h
 |x::r,_,ho,h=> .inr ⟨ho x (by simp),fun j hj=>ho j (by simp[hj]),h⟩
theorem RailSt.step{k:Nat}{P:Value->World->Prop}{v:Value}{post:List (Nat×(Value->World->Prop))}(hpost:∀j∈post,L j.1=false)(hnp:∀j∈post,j.1≠k)(hP:P v w'):∀(pre:List (Nat×(Value->World->Prop))) (Cur:World->Prop),(∀j∈pre,L j.1=true)->
 RailSt (updL L k) (updV vals k v) w' (pre++(k,P)::post) Cur
 |[],Cur,_=> .inl ⟨RI _ _,RailSt.off _ _ (fun j hj=>by rw[XN (by simpa using hnp j hj)];exact hpost j hj) (by rw[Nu];exact hP)⟩
 |(i,Q)::r,Cur,h=> .inl ⟨by simp[updL,h (i,Q) (by simp)],RailSt.step hpost hnp hP r _ (fun j hj=>h j (by simp[hj]))⟩
theorem RailSt.other{k:Nat}{v:Value}:∀(cs:List (Nat×(Value->World->Prop))) (Cur:World->Prop),(∀j∈cs,j.1≠k)->RailSt L vals w cs Cur->RailSt (updL L k) (updV vals k v) w cs Cur
 |[],_,_,h=>h
 |(i,P)::r,_,hk,h=>by
  have hi:i≠k:=hk (i,P) (by simp)
  have hr:∀j∈r,j.1≠k:=fun j hj=>hk j (by simp[hj])
  rcases h with⟨h1,h2⟩|⟨h1,h2,h3⟩
  ·exact .inl ⟨by rw[XN (by simpa using hi)];exact h1,by rw[Hv hi];exact RailSt.other r _ hr h2⟩
  ·exact .inr ⟨by rw[XN (by simpa using hi)];exact h1,fun j hj=>by rw[XN (by simpa using hr j hj)];exact h2 j hj,h3⟩
theorem RailSt.inv{I:World->Prop}{k:Nat}{P:Value->World->Prop}{post:List (Nat×(Value->World->Prop))}(hk:L k=false):∀(pre:List (Nat×(Value->World->Prop))) (Cur:World->Prop),RailSt L vals w (pre++(k,P)::post) Cur->(Cur w->I w)->(∀x∈pre,∀v,x.2 v w->I w)->I w
 |[],Cur,h,h0,_=>by
  rcases h with⟨h,_⟩|⟨_,_,h⟩
  ·rw[hk] at h;cases h
  ·exact h0 h
 |(i,Q)::r,Cur,h,h0,hp=>by
  rcases h with⟨_,h⟩|⟨_,_,h⟩
  ·exact RailSt.inv hk r _ h (fun h=>hp (i,Q) (by simp) _ h) (fun x hx=>hp x (by simp[hx]))
  ·exact h0 h
theorem RailSt.fin:∀(cs:List (Nat×(Value->World->Prop))) (Cur:World->Prop),(∀j∈cs,L j.1=true)->RailSt L vals w cs Cur->QR vals cs Cur w
 |[],_,_,h=>h
 |(i,P)::r,_,hk,h=>by
  rcases h with⟨_,h⟩|⟨h,_⟩
  ·exact RailSt.fin r _ (fun j hj=>hk j (by simp[hj])) h
  ·rw[hk (i,P) (by simp)] at h;cases h
end
def Ro(L:Nat->Bool):List (Nat×(Value->World->Prop))->Prop
 |[]=>True
 |(k,_)::r=>match r with
  |[]=>L k=true
  |x::r=>Ro L (x::r)
theorem Kv{L:Nat->Bool}:∀(l:List (Nat×(Value->World->Prop))),Ro L l->∀j,l.getLast?=some j->L j.1=true
 |[],_,_,h=>by cases h
 |[(k,P)],h,j,hj=>by
  rw[List.getLast?_singleton] at hj
  injection hj with hj
  subst hj
  exact h
 |(k,P)::x::r,h,j,hj=>Kv (x::r) h j (by rw[List.getLast?_cons_cons] at hj;exact hj)
theorem MK{α:Type}:∀(l:List α) (n:Nat) {x:α},l[n]? =some x->l=l.take n++x::l.drop (n+1)
 |[],_,_,h=>by simp at h
 |a::l,0,x,h=>by simp at h;simp[h]
 |a::l,n+1,x,h=>by
  rw[List.take_succ_cons,List.drop_succ_cons,List.cons_append]
  exact congrArg _ (MK l n (by simpa using h))
section
variable {dep:List (Nat×Nat)} {ps:List (Nat×Value)} {cs:List (Nat×(Value->World->Prop))} {S0:World->Prop} {L:Nat->Bool} {vals:Nat->Value} {w w':World}
theorem Rp{α:Type}{l:List (Nat×α)}{k:Nat}(h:(l.map (·.1)).all (. != k)=true):∀j∈l,j.1≠k:=fun j hj=>by
 have:=List.all_eq_true.1 h j.1 (List.mem_map.2 ⟨j,hj,rfl⟩)
 simpa using this
theorem Rail.start(h:S0 w)(vals:Nat->Value):Rail dep ps cs S0 (fun _=>false) vals w:=⟨fun _ _ h=>(Bool.false_ne_true h).elim,fun _ _ h=>(Bool.false_ne_true h).elim,RailSt.off _ _ (fun _ _=>rfl) h⟩
theorem Rail.dnUpd(h:Rail dep ps cs S0 L vals w)(k:Nat)(hd:∀x∈dep.filter (·.1==k),L x.2=true):∀x∈dep,updL L k x.1=true->updL L k x.2=true:=by
 intro x hx hu
 by_cases e:x.1=k
 ·simp[updL,hd x (List.mem_filter.2 ⟨hx,by simpa using e⟩)]
 ·rw[XN (by simpa using e)] at hu
  simp[updL,h.dn x hx hu]
theorem Rail.val(h:Rail dep ps cs S0 L vals w)(i:Nat){k:Nat}{v:Value}(hi:ps[i]? =some (k,v))(hL:L k=true):vals k=v:=h.pv _ (List.mem_of_getElem? hi) hL
theorem Rail.pure(h:Rail dep ps cs S0 L vals w)(k:Nat)(v:Value)(hk:(cs.map (·.1)).all (. != k)=true)(hd:∀x∈dep.filter (·.1==k),L x.2=true)(hp:∀x∈ps.filter (·.1==k),v=x.2):Rail dep ps cs S0 (updL L k) (updV vals k v) w:=by
 refine⟨h.dnUpd k hd,fun x hx hu=>?_,h.st.other _ _ (Rp hk)⟩
 by_cases e:x.1=k
 ·rw[e,Nu];exact hp x (List.mem_filter.2 ⟨hx,by simpa using e⟩)
 ·rw[XN (by simpa using e)] at hu
  rw[Hv e];exact h.pv x hx hu
theorem Rail.stat(h:Rail dep ps cs S0 L vals w)(n:Nat){k:Nat}{P:Value->World->Prop}(hn:cs[n]? =some (k,P))(hk:L k=false)(hl:Ro L (cs.take n))(hnp:((cs.drop (n+1)).map (·.1)).all (. != k)=true)(hd:∀x∈dep.filter (·.1==k),L x.2=true)(hp:(ps.map (·.1)).all (. != k)=true):
 QR vals (cs.take n) S0 w/\∀v w',P v w'->Rail dep ps cs S0 (updL L k) (updV vals k v) w':=by
 have hs:=h.st
 have hn:=MK _ _ hn
 rw[hn] at hs
 obtain⟨a,b,c⟩:=RailSt.at_ hk _ _ hs (Kv _ hl)
 refine⟨a,fun v w' hP=>⟨h.dnUpd k hd,fun x hx hu=>?_,?_⟩⟩
 ·have e:=Rp hp x hx
  rw[XN (by simpa using e)] at hu
  rw[Hv e];exact h.pv x hx hu
 ·have:=RailSt.step (vals:=vals) c (Rp hnp) hP _ S0 b
  rw[<-hn] at this
  exact this
theorem Rail.before(h:Rail dep ps cs S0 L vals w){I:World->Prop}(n k:Nat){s:Nat}{P:Value->World->Prop}(hn:cs[n]? =some (s,P))(hds:dep.contains (s,k)=true)(hk:L k=false)(h0:S0 w->I w)(hI:∀x∈cs.take n,∀v,x.2 v w->I w):I w:=by
 have hs:=h.st
 rw[MK _ _ hn] at hs
 refine RailSt.inv ?_ _ _ hs h0 hI
 cases e:L s with
 |false=>rfl
 |true=>have:=h.dn _ (List.contains_iff_mem.1 hds) e;rw[hk] at this;cases this
theorem Rail.fin(h:Rail dep ps cs S0 L vals w)(ha:(cs.map (·.1)).all L=true):QR vals cs S0 w:=h.st.fin _ _ (fun j hj=>List.all_eq_true.1 ha j.1 (List.mem_map.2 ⟨j,hj,rfl⟩))
end
theorem InvStep.lst{P:Program}{md:Region.Mode}{l:List Oper}{Q:Exit->Act->World->Prop}{T:List Value}{ds:List Deferred}{rem:List Nat}{R:(Nat->Bool)->(Nat->Value)->World->Prop}(k:Nat){o:Oper}(deps:List Nat)(lst:List (Nat×Option Tmp))
 (h:∀(L:Nat->Bool) (vals olds:Nat->Value) (w:World),L k=false->deps.all L=true->R L vals w->
  ∀K:Act->World->Prop,(∀v w',R (updL L k) (updV vals k v) w'->K ⟨(setD (Qs L vals olds lst T) o.dst v).toArray,ds⟩ w')->
  Oper.wp P o ⟨(Qs L vals olds lst T).toArray,ds⟩ w K Q) (ho:l[k]? =some o:=by rfl) (hg:o.guard=none:=by rfl)
 (hdeps:(deps.all (UE md l.toArray rem k).contains)=true:=by kernel_rfl) (hl:(rem.map fun k=>(k,Zq l.toArray k))=lst:=by kernel_rfl) (hn:rem.Nodup:=by decide):InvStep P md l.toArray Q ⟨T.toArray,ds⟩ rem R k:=
 InvStep.list ho hg deps hdeps lst hl hn (fun L vals olds w h1 h2 h3 K hK=>h L vals olds w h1 h2 h3 K hK.out)
theorem fN{α:Type}{p:α->Prop}:∀x∈([]:List α),p x:=List.forall_mem_nil _
theorem fC{α:Type}{p:α->Prop}{a:α}{l:List α}(h:p a/\∀x∈l,p x):∀x∈a::l,p x:=List.forall_mem_cons.2 h
end Go.Proofs.YtmnbheplkidfaaaGreatDoor
