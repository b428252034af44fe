/- Parsing: definitions, programs. (and what follows from it) -/
import Derived.Test.YtmnbheplkidfaaaGreatDoorPw7
set_option maxHeartbeats 16000000
set_option maxRecDepth 100000
namespace Go.Proofs.YtmnbheplkidfaaaGreatDoor
open Go.Lib (hid)
open Go.RowKit Go.Deep Go.Shelf
theorem c14p{w:World}{X:Nat}{T:TypeId}{v0 v1 v2 v3 v4 v5 v6 v7 v8 v9 v10 v11 v12 v13:Value}(h:w.heap[X]? =some (.cells #[v0,v1,v2,v3,v4,v5,v6,v7,v8,v9,v10,v11,v12,v13] T (0,0))):(w.cell? ⟨X,0,none⟩=some v0/\w.cell? ⟨X,1,none⟩=some v1/\w.cell? ⟨X,2,none⟩=some v2/\w.cell? ⟨X,3,none⟩=some v3/\w.cell? ⟨X,4,none⟩=some v4/\w.cell? ⟨X,5,none⟩=some v5/\w.cell? ⟨X,6,none⟩=some v6/\w.cell? ⟨X,7,none⟩=some v7/\w.cell? ⟨X,8,none⟩=some v8/\w.cell? ⟨X,9,none⟩=some v9/\w.cell? ⟨X,10,none⟩=some v10/\w.cell? ⟨X,11,none⟩=some v11/\w.cell? ⟨X,12,none⟩=some v12/\w.cell? ⟨X,13,none⟩=some v13)/\w.frozen? ⟨X,0,none⟩=false/\w.frozen? ⟨X,1,none⟩=false/\w.frozen? ⟨X,2,none⟩=false/\w.frozen? ⟨X,3,none⟩=false/\w.frozen? ⟨X,4,none⟩=false/\w.frozen? ⟨X,5,none⟩=false/\w.frozen? ⟨X,6,none⟩=false/\w.frozen? ⟨X,7,none⟩=false/\w.frozen? ⟨X,8,none⟩=false/\w.frozen? ⟨X,9,none⟩=false/\w.frozen? ⟨X,10,none⟩=false/\w.frozen? ⟨X,11,none⟩=false/\w.frozen? ⟨X,12,none⟩=false/\w.frozen? ⟨X,13,none⟩=false:=by
 refine⟨⟨?_,?_,?_,?_,?_,?_,?_,?_,?_,?_,?_,?_,?_,?_⟩,Qc h 0,Qc h 1,Qc h 2,Qc h 3,Qc h 4,Qc h 5,Qc h 6,Qc h 7,Qc h 8,Qc h 9,Qc h 10,Qc h 11,Qc h 12,Qc h 13⟩ <;> simp[World.cell?,h]
abbrev put14(w:World)(X:Nat)(v0 v1 v2 v3 v4 v5 v6 v7 v8 v9 v10 v11 v12 v13:Value):World:=((((((((((((((w.setCell ⟨X,0,none⟩ v0).setCell ⟨X,1,none⟩ v1).setCell ⟨X,2,none⟩ v2).setCell ⟨X,3,none⟩ v3).setCell ⟨X,4,none⟩ v4).setCell ⟨X,5,none⟩ v5).setCell ⟨X,6,none⟩ v6).setCell ⟨X,7,none⟩ v7).setCell ⟨X,8,none⟩ v8).setCell ⟨X,9,none⟩ v9).setCell ⟨X,10,none⟩ v10).setCell ⟨X,11,none⟩ v11).setCell ⟨X,12,none⟩ v12).setCell ⟨X,13,none⟩ v13)
theorem Ex{w:World}{X:Nat}{T:TypeId}{v0 v1 v2 v3 v4 v5 v6 v7 v8 v9 v10 v11 v12 v13:Value}(h:w.heap[X]? =some (.cells #[v0,v1,v2,v3,v4,v5,v6,v7,v8,v9,v10,v11,v12,v13] T (0,0)))(u0 u1 u2 u3 u4 u5 u6 u7 u8 u9 u10 u11 u12 u13:Value):(put14 w X u0 u1 u2 u3 u4 u5 u6 u7 u8 u9 u10 u11 u12 u13).heap[X]? =some (.cells #[u0,u1,u2,u3,u4,u5,u6,u7,u8,u9,u10,u11,u12,u13] T (0,0)):=by
 have h0:_ =some (Obj.cells #[u0,v1,v2,v3,v4,v5,v6,v7,v8,v9,v10,v11,v12,v13] T (0,0)):=Qd h 0 u0
 clear h
 have h1:_ =some (Obj.cells #[u0,u1,v2,v3,v4,v5,v6,v7,v8,v9,v10,v11,v12,v13] T (0,0)):=Qd h0 1 u1
 clear h0
 have h2:_ =some (Obj.cells #[u0,u1,u2,v3,v4,v5,v6,v7,v8,v9,v10,v11,v12,v13] T (0,0)):=Qd h1 2 u2
 clear h1
 have h3:_ =some (Obj.cells #[u0,u1,u2,u3,v4,v5,v6,v7,v8,v9,v10,v11,v12,v13] T (0,0)):=Qd h2 3 u3
 clear h2
 have h4:_ =some (Obj.cells #[u0,u1,u2,u3,u4,v5,v6,v7,v8,v9,v10,v11,v12,v13] T (0,0)):=Qd h3 4 u4
 clear h3
 have h5:_ =some (Obj.cells #[u0,u1,u2,u3,u4,u5,v6,v7,v8,v9,v10,v11,v12,v13] T (0,0)):=Qd h4 5 u5
 clear h4
 have h6:_ =some (Obj.cells #[u0,u1,u2,u3,u4,u5,u6,v7,v8,v9,v10,v11,v12,v13] T (0,0)):=Qd h5 6 u6
 clear h5
 have h7:_ =some (Obj.cells #[u0,u1,u2,u3,u4,u5,u6,u7,v8,v9,v10,v11,v12,v13] T (0,0)):=Qd h6 7 u7
 clear h6
 have h8:_ =some (Obj.cells #[u0,u1,u2,u3,u4,u5,u6,u7,u8,v9,v10,v11,v12,v13] T (0,0)):=Qd h7 8 u8
 clear h7
 have h9:_ =some (Obj.cells #[u0,u1,u2,u3,u4,u5,u6,u7,u8,u9,v10,v11,v12,v13] T (0,0)):=Qd h8 9 u9
 clear h8
 have h10:_ =some (Obj.cells #[u0,u1,u2,u3,u4,u5,u6,u7,u8,u9,u10,v11,v12,v13] T (0,0)):=Qd h9 10 u10
 clear h9
 have h11:_ =some (Obj.cells #[u0,u1,u2,u3,u4,u5,u6,u7,u8,u9,u10,u11,v12,v13] T (0,0)):=Qd h10 11 u11
 clear h10
 have h12:_ =some (Obj.cells #[u0,u1,u2,u3,u4,u5,u6,u7,u8,u9,u10,u11,u12,v13] T (0,0)):=Qd h11 12 u12
 clear h11
 have h13:_ =some (Obj.cells #[u0,u1,u2,u3,u4,u5,u6,u7,u8,u9,u10,u11,u12,u13] T (0,0)):=Qd h12 13 u13
 clear h12
 exact h13
theorem NJ{w:World}{X k:Nat}(h:k≠X)(v0 v1 v2 v3 v4 v5 v6 v7 v8 v9 v10 v11 v12 v13:Value):(put14 w X v0 v1 v2 v3 v4 v5 v6 v7 v8 v9 v10 v11 v12 v13).heap[k]? =w.heap[k]? :=by
 rw[oth1 _ _ _ h,oth1 _ _ _ h,oth1 _ _ _ h,oth1 _ _ _ h,oth1 _ _ _ h,oth1 _ _ _ h,oth1 _ _ _ h,oth1 _ _ _ h,oth1 _ _ _ h,oth1 _ _ _ h,oth1 _ _ _ h,oth1 _ _ _ h,oth1 _ _ _ h,oth1 _ _ _ h]
theorem Md(w:World)(X:Nat)(v0 v1 v2 v3 v4 v5 v6 v7 v8 v9 v10 v11 v12 v13:Value):(put14 w X v0 v1 v2 v3 v4 v5 v6 v7 v8 v9 v10 v11 v12 v13).heap.size=w.heap.size:=by simp[put14,World.setCell]
theorem But.put14{P X:Nat}{w w':World}(h:But P w w')(hX:w.heap.size<=X)(v0 v1 v2 v3 v4 v5 v6 v7 v8 v9 v10 v11 v12 v13:Value):But P w (put14 w' X v0 v1 v2 v3 v4 v5 v6 v7 v8 v9 v10 v11 v12 v13):=((((((((((((((h).setX hX 0 v0).setX hX 1 v1).setX hX 2 v2).setX hX 3 v3).setX hX 4 v4).setX hX 5 v5).setX hX 6 v6).setX hX 7 v7).setX hX 8 v8).setX hX 9 v9).setX hX 10 v10).setX hX 11 v11).setX hX 12 v12).setX hX 13 v13
theorem LS{c X:Nat}{w:World}(hX:X<c)(v0 v1 v2 v3 v4 v5 v6 v7 v8 v9 v10 v11 v12 v13:Value):Keeps (fun k=>c<=k/\k<w.heap.size) w (put14 w X v0 v1 v2 v3 v4 v5 v6 v7 v8 v9 v10 v11 v12 v13):=fun k _ hk ho _=>(NJ (show k≠X from fun e=>by have:=hk.1;omega) v0 v1 v2 v3 v4 v5 v6 v7 v8 v9 v10 v11 v12 v13).trans ho
theorem c13p{w:World}{X:Nat}{T:TypeId}{v0 v1 v2 v3 v4 v5 v6 v7 v8 v9 v10 v11 v12:Value}(h:w.heap[X]? =some (.cells #[v0,v1,v2,v3,v4,v5,v6,v7,v8,v9,v10,v11,v12] T (0,0))):(w.cell? ⟨X,0,none⟩=some v0/\w.cell? ⟨X,1,none⟩=some v1/\w.cell? ⟨X,2,none⟩=some v2/\w.cell? ⟨X,3,none⟩=some v3/\w.cell? ⟨X,4,none⟩=some v4/\w.cell? ⟨X,5,none⟩=some v5/\w.cell? ⟨X,6,none⟩=some v6/\w.cell? ⟨X,7,none⟩=some v7/\w.cell? ⟨X,8,none⟩=some v8/\w.cell? ⟨X,9,none⟩=some v9/\w.cell? ⟨X,10,none⟩=some v10/\w.cell? ⟨X,11,none⟩=some v11/\w.cell? ⟨X,12,none⟩=some v12)/\w.frozen? ⟨X,0,none⟩=false/\w.frozen? ⟨X,1,none⟩=false/\w.frozen? ⟨X,2,none⟩=false/\w.frozen? ⟨X,3,none⟩=false/\w.frozen? ⟨X,4,none⟩=false/\w.frozen? ⟨X,5,none⟩=false/\w.frozen? ⟨X,6,none⟩=false/\w.frozen? ⟨X,7,none⟩=false/\w.frozen? ⟨X,8,none⟩=false/\w.frozen? ⟨X,9,none⟩=false/\w.frozen? ⟨X,10,none⟩=false/\w.frozen? ⟨X,11,none⟩=false/\w.frozen? ⟨X,12,none⟩=false:=by
 refine⟨⟨?_,?_,?_,?_,?_,?_,?_,?_,?_,?_,?_,?_,?_⟩,Qc h 0,Qc h 1,Qc h 2,Qc h 3,Qc h 4,Qc h 5,Qc h 6,Qc h 7,Qc h 8,Qc h 9,Qc h 10,Qc h 11,Qc h 12⟩ <;> simp[World.cell?,h]
abbrev put13(w:World)(X:Nat)(v0 v1 v2 v3 v4 v5 v6 v7 v8 v9 v10 v11 v12:Value):World:=(((((((((((((w.setCell ⟨X,0,none⟩ v0).setCell ⟨X,1,none⟩ v1).setCell ⟨X,2,none⟩ v2).setCell ⟨X,3,none⟩ v3).setCell ⟨X,4,none⟩ v4).setCell ⟨X,5,none⟩ v5).setCell ⟨X,6,none⟩ v6).setCell ⟨X,7,none⟩ v7).setCell ⟨X,8,none⟩ v8).setCell ⟨X,9,none⟩ v9).setCell ⟨X,10,none⟩ v10).setCell ⟨X,11,none⟩ v11).setCell ⟨X,12,none⟩ v12)
theorem UC{w:World}{X:Nat}{T:TypeId}{v0 v1 v2 v3 v4 v5 v6 v7 v8 v9 v10 v11 v12:Value}(h:w.heap[X]? =some (.cells #[v0,v1,v2,v3,v4,v5,v6,v7,v8,v9,v10,v11,v12] T (0,0)))(u0 u1 u2 u3 u4 u5 u6 u7 u8 u9 u10 u11 u12:Value):(put13 w X u0 u1 u2 u3 u4 u5 u6 u7 u8 u9 u10 u11 u12).heap[X]? =some (.cells #[u0,u1,u2,u3,u4,u5,u6,u7,u8,u9,u10,u11,u12] T (0,0)):=by
 have h0:_ =some (Obj.cells #[u0,v1,v2,v3,v4,v5,v6,v7,v8,v9,v10,v11,v12] T (0,0)):=Qd h 0 u0
 clear h
 have h1:_ =some (Obj.cells #[u0,u1,v2,v3,v4,v5,v6,v7,v8,v9,v10,v11,v12] T (0,0)):=Qd h0 1 u1
 clear h0
 have h2:_ =some (Obj.cells #[u0,u1,u2,v3,v4,v5,v6,v7,v8,v9,v10,v11,v12] T (0,0)):=Qd h1 2 u2
 clear h1
 have h3:_ =some (Obj.cells #[u0,u1,u2,u3,v4,v5,v6,v7,v8,v9,v10,v11,v12] T (0,0)):=Qd h2 3 u3
 clear h2
 have h4:_ =some (Obj.cells #[u0,u1,u2,u3,u4,v5,v6,v7,v8,v9,v10,v11,v12] T (0,0)):=Qd h3 4 u4
 clear h3
 have h5:_ =some (Obj.cells #[u0,u1,u2,u3,u4,u5,v6,v7,v8,v9,v10,v11,v12] T (0,0)):=Qd h4 5 u5
 clear h4
 have h6:_ =some (Obj.cells #[u0,u1,u2,u3,u4,u5,u6,v7,v8,v9,v10,v11,v12] T (0,0)):=Qd h5 6 u6
 clear h5
 have h7:_ =some (Obj.cells #[u0,u1,u2,u3,u4,u5,u6,u7,v8,v9,v10,v11,v12] T (0,0)):=Qd h6 7 u7
 clear h6
 have h8:_ =some (Obj.cells #[u0,u1,u2,u3,u4,u5,u6,u7,u8,v9,v10,v11,v12] T (0,0)):=Qd h7 8 u8
 clear h7
 have h9:_ =some (Obj.cells #[u0,u1,u2,u3,u4,u5,u6,u7,u8,u9,v10,v11,v12] T (0,0)):=Qd h8 9 u9
 clear h8
 have h10:_ =some (Obj.cells #[u0,u1,u2,u3,u4,u5,u6,u7,u8,u9,u10,v11,v12] T (0,0)):=Qd h9 10 u10
 clear h9
 have h11:_ =some (Obj.cells #[u0,u1,u2,u3,u4,u5,u6,u7,u8,u9,u10,u11,v12] T (0,0)):=Qd h10 11 u11
 clear h10
 have h12:_ =some (Obj.cells #[u0,u1,u2,u3,u4,u5,u6,u7,u8,u9,u10,u11,u12] T (0,0)):=Qd h11 12 u12
 clear h11
 exact h12
theorem ZH{w:World}{X k:Nat}(h:k≠X)(v0 v1 v2 v3 v4 v5 v6 v7 v8 v9 v10 v11 v12:Value):(put13 w X v0 v1 v2 v3 v4 v5 v6 v7 v8 v9 v10 v11 v12).heap[k]? =w.heap[k]? :=by
 rw[oth1 _ _ _ h,oth1 _ _ _ h,oth1 _ _ _ h,oth1 _ _ _ h,oth1 _ _ _ h,oth1 _ _ _ h,oth1 _ _ _ h,oth1 _ _ _ h,oth1 _ _ _ h,oth1 _ _ _ h,oth1 _ _ _ h,oth1 _ _ _ h,oth1 _ _ _ h]
theorem Zw(w:World)(X:Nat)(v0 v1 v2 v3 v4 v5 v6 v7 v8 v9 v10 v11 v12:Value):(put13 w X v0 v1 v2 v3 v4 v5 v6 v7 v8 v9 v10 v11 v12).heap.size=w.heap.size:=by simp[put13,World.setCell]
theorem But.put13{P X:Nat}{w w':World}(h:But P w w')(hX:w.heap.size<=X)(v0 v1 v2 v3 v4 v5 v6 v7 v8 v9 v10 v11 v12:Value):But P w (put13 w' X v0 v1 v2 v3 v4 v5 v6 v7 v8 v9 v10 v11 v12):=(((((((((((((h).setX hX 0 v0).setX hX 1 v1).setX hX 2 v2).setX hX 3 v3).setX hX 4 v4).setX hX 5 v5).setX hX 6 v6).setX hX 7 v7).setX hX 8 v8).setX hX 9 v9).setX hX 10 v10).setX hX 11 v11).setX hX 12 v12
abbrev Nn(w:World)(X:Nat):World:=put13 w X sN iZ tE tE sN sN iZ iZ tE iZ sN sN sN
theorem fillz13{w:World}{X:Nat}{T:TypeId}{v0 v1 v2 v3 v4 v5 v6 v7 v8 v9 v10 v11 v12:Value}(h:w.heap[X]? =some (.cells #[v0,v1,v2,v3,v4,v5,v6,v7,v8,v9,v10,v11,v12] T (0,0))):(Nn w X).heap[X]? =some (.cells z13 T (0,0)):=UC h sN iZ tE tE sN sN iZ iZ tE iZ sN sN sN
theorem Ei{w:World}{X k:Nat}(h:k≠X):(Nn w X).heap[k]? =w.heap[k]? :=ZH h sN iZ tE tE sN sN iZ iZ tE iZ sN sN sN
theorem Eg(w:World)(X:Nat):(Nn w X).heap.size=w.heap.size:=Zw _ _ sN iZ tE tE sN sN iZ iZ tE iZ sN sN sN
theorem Gd{c X:Nat}{w:World}(hX:X<c)(v0 v1 v2 v3 v4 v5 v6 v7 v8 v9 v10 v11 v12:Value):Keeps (fun k=>c<=k/\k<w.heap.size) w (put13 w X v0 v1 v2 v3 v4 v5 v6 v7 v8 v9 v10 v11 v12):=fun k _ hk ho _=>(ZH (show k≠X from fun e=>by have:=hk.1;omega) v0 v1 v2 v3 v4 v5 v6 v7 v8 v9 v10 v11 v12).trans ho
def DfVal(B:Nat->Prop)(w:World)(v:Value)(d:Df):Prop:=∃mv lv av tl tk kv,v= .agg #[.string d.n,mv,.int .i64 d.b.k,.string d.b.c,.string d.b.x,lv,av,.int .i64 d.b.t.k,.int .i64 d.b.t.p,.string d.b.t.n,.int .i64 d.b.t.s,tl,tk,kv]/\d.n.size<=maxLen/\PmSl B w mv d.ms/\PrVal B w (QW d.b lv av tl tk kv) d.b
theorem VP{B:Nat->Prop}{w:World}{p:Pr}{lv av tl tk kv:Value}(h:PrVal B w (QW p lv av tl tk kv) p):∃la ln lc aa an ac ta tn tc ua un uc ka kn kc,lv= .slice la ln lc/\av= .slice aa an ac/\tl= .slice ta tn tc/\tk= .slice ua un uc/\kv= .slice ka kn kc:=by
 obtain⟨la,ln,lc,aa,an,ac,ta,tn,tc,ua,un,uc,ka,kn,kc,e⟩:=PrVal.open h
 simp only[Value.agg.injEq,Array.mk.injEq,List.cons.injEq,and_true,true_and] at e
 exact⟨_,_,_,_,_,_,_,_,_,_,_,_,_,_,_,e.1,e.2.1,e.2.2.1,e.2.2.2.1,e.2.2.2.2⟩
theorem DfVal.open{B:Nat->Prop}{w:World}{d:Df}{v:Value}(h:DfVal B w v d):∃ma mn mc la ln lc aa an ac ta tn tc ua un uc ka kn kc,v= .agg #[.string d.n,.slice ma mn mc,.int .i64 d.b.k,.string d.b.c,.string d.b.x,.slice la ln lc,.slice aa an ac,.int .i64 d.b.t.k,.int .i64 d.b.t.p,.string d.b.t.n,.int .i64 d.b.t.s,.slice ta tn tc,.slice ua un uc,.slice ka kn kc]:=by
 obtain⟨mv,lv,av,tl,tk,kv,rfl,_,hm,hp⟩:=h
 obtain⟨ma,mn,mc,rfl,_⟩:=hm.open
 obtain⟨la,ln,lc,aa,an,ac,ta,tn,tc,ua,un,uc,ka,kn,kc,rfl,rfl,rfl,rfl,rfl⟩:=VP hp
 exact⟨_,_,_,_,_,_,_,_,_,_,_,_,_,_,_,_,_,_,rfl⟩
theorem lyDf:Lyer DfVal 14:=by
 refine⟨?_,?_,?_,?_⟩
 ·rintro B w w' v x h⟨mv,lv,av,tl,tk,kv,e,hn,hm,hp⟩;exact⟨mv,lv,av,tl,tk,kv,e,hn,hm.keep h,hp.keep h⟩
 ·rintro B C w v x h⟨mv,lv,av,tl,tk,kv,e,hn,hm,hp⟩;exact⟨mv,lv,av,tl,tk,kv,e,hn,hm.mono h,hp.mono h⟩
 ·rintro B w v x⟨mv,lv,av,tl,tk,kv,rfl,_⟩;rfl
 ·intro B w v x h u hu
  obtain⟨ma,mn,mc,la,ln,lc,aa,an,ac,ta,tn,tc,ua,un,uc,ka,kn,kc,rfl⟩:=DfVal.open h
  simp only[cl,Value.cells,List.mem_cons,List.not_mem_nil,or_false] at hu
  rcases hu with rfl|rfl|rfl|rfl|rfl|rfl|rfl|rfl|rfl|rfl|rfl|rfl|rfl|rfl <;> rfl
theorem LRow.dfs{base:Nat}{w:World}{l:Value}{vs:List Value}{O:Nat->Prop}{xs:List Df}(h:LRow 61 14 base DfVal O w l vs xs)(hm:xs.length<=maxLen):DfSl (fun k=>base<=k/\k<w.heap.size/\¬O k) w l xs:=by
 rcases h.parts with⟨rfl,rfl⟩|⟨g,cap,e,h1,h2,_⟩
 ·exact⟨.inl ⟨⟨_,_,rfl⟩,rfl⟩,Nat.zero_le _⟩
 ·have hB:base<=g/\g<w.heap.size/\¬O g:=⟨h1,h2,h.out g (by rw[e];rfl)⟩
  refine⟨.inr ⟨g,0,cap,e,hB,fun j a hj=>?_⟩,hm⟩
  obtain⟨u,hu,hv⟩:=h.at hj
  have hc:=fun i z (hz:(cl u)[i]? =some z)=>h.cells e hu (i:=i) (z:=z) hz
  have hv':=lyDf.mono (C:=fun k=>base<=k/\k<w.heap.size/\¬O k) (fun k hk=>⟨hk.1,hk.2.1,hk.2.2.1⟩) hv
  obtain⟨mv,lv,av,tl,tk,kv,rfl,hn,hms,hp⟩:=hv'
  rw[Nat.zero_add]
  refine⟨hn,hc 0 _ rfl,⟨mv,hc 1 _ rfl,hms⟩,?_⟩
  exact UI hB (hc 2 _ rfl) (hc 3 _ rfl) (hc 4 _ rfl) (hc 5 _ rfl) (hc 6 _ rfl) (hc 7 _ rfl) (hc 8 _ rfl) (hc 9 _ rfl) (hc 10 _ rfl) (hc 11 _ rfl) (hc 12 _ rfl) (hc 13 _ rfl) hp
theorem FF:Yt 23 61 14:=UD Tryz.underlying23 (z:= .agg #[.string ⟨#[]⟩,.slice none 0 0,.int .i64 0,.string ⟨#[]⟩,.string ⟨#[]⟩,.slice none 0 0,.slice none 0 0,.int .i64 0,.int .i64 0,.string ⟨#[]⟩,.int .i64 0,.slice none 0 0,.slice none 0 0,.slice none 0 0]) (bytes:=240) (by kernel_rfl) (by decide) rfl (by decide)
def GDf(b:Nat)(w:World)(d:Df)(v:Value):Prop:=DfVal (fun k=>b<=k/\k<w.heap.size) w v d
theorem Xg(f:Nat):Qr (Zu (Ql Qb f)):=fun ts x r h=>by
 obtain⟨_,s1,h1,h⟩:=PR.bind_ok h
 obtain⟨_,s2,h2,h⟩:=PR.bind_ok h
 obtain⟨_,s3,h3,h⟩:=PR.bind_ok h
 cases h
 have:=QJ h1
 have:=Qp h2
 have:=HU (ZT f) _ _ _ h3
 omega
theorem Sr(f:Nat):Qr (YW Qb f):=fun ts x r h=>by
 obtain⟨_,s1,h1,h⟩:=PR.bind_ok h
 obtain⟨_,s2,h2,h⟩:=PR.bind_ok h
 obtain⟨_,s3,h3,h⟩:=PR.bind_ok h
 cases h
 have:=Qp h1
 have:=Uw f _ _ _ h2
 have:=Qp h3
 omega
theorem LG(f:Nat):Qr (pdef Qb f):=fun ts x r h=>by
 obtain⟨_,s1,h1,h⟩:=PR.bind_ok h
 obtain⟨_,s2,h2,h⟩:=PR.bind_ok h
 obtain⟨_,s3,h3,h⟩:=PR.bind_ok h
 obtain⟨_,s4,h4,h⟩:=PR.bind_ok h
 cases h
 have:=QJ h1
 have:=Qp h2
 have:=Xl (Xg f) _ _ _ _ _ h3
 have:=Sr f _ _ _ h4
 omega
theorem Fu(P tb:Nat)(E:Int)(ts:List Tk)(B:Nat)(w:World)(he:Env B w)(hBP:B<=P)(h:PaIs P tb E ts w)(f:Nat)(hf:2*ts.length+2<=f):
 Calls Tryz.prog 51 #[.pointer (some ⟨P,0,none⟩)] w (Parsed P tb E w (pdef Qb f ts) (GDf w.heap.size)):=by
 obtain⟨W1,hW1⟩:∃W1,w.alloc (.cells #[.string ⟨#[]⟩,.slice none 0 0,.int .i64 0,.string ⟨#[]⟩,.string ⟨#[]⟩,.slice none 0 0,.slice none 0 0,.int .i64 0,.int .i64 0,.string ⟨#[]⟩,.int .i64 0,.slice none 0 0,.slice none 0 0,.slice none 0 0] 61)=W1:=⟨_,rfl⟩
 have hb1:=(made hW1).1
 have x1:=(made hW1).2
 have hs1:w.heap.size<W1.heap.size:=(gl x1)
 have hP:P<w.heap.size:=h.lt
 have htb:tb≠w.heap.size:=Nat.ne_of_lt h.tlt
 have HTB:=hid h.tlt
 have HP:Hid (PaIs P tb E ts W1):=hid (h.to hb1)
 have HB:Hid (But P W1 W1):=hid (But.refl _ _)
 have HW1:=hid hW1
 have HB1:=hid hb1
 have HX1:=hid x1
 have HE:=hid (he.to hb1)
 clear hW1 hb1 x1 he h
 unfold pdef
 cases h1:Qk Qb ts with
 |bad er r=>
  show Calls _ _ _ _ (Parsed P tb E w (PR.bad er r) _)
  go_enter Tryz.func51,Tryz.ntmps51
  go_upto_region 1 with fail
  rw[HW1.out]
  go_wp2_with (first|(go_at_call 78;refine(namB (HE.out.but HB.out hBP) HP HB h1).mono ?_;rintro _ wn⟨rfl,HB⟩))
  exact⟨rfl,rfl,(But.of HB1.out).trans HB.out⟩
 |ok nm r1=>
  have hlr1:=QJ h1
  cases h2:need QI r1 with
  |bad er r=>
   show Calls _ _ _ _ (Parsed P tb E w ((need QI r1).bind _) _)
   rw[h2]
   show Calls _ _ _ _ (Parsed P tb E w (PR.bad er r) _)
   go_enter Tryz.func51,Tryz.ntmps51
   go_upto_region 1 with fail
   rw[HW1.out]
   go_wp2_with (first|(go_at_call 78;refine(namH (HE.out.but HB.out hBP) HP HB h1).mono ?_;rintro _ wn⟨rfl,hnz,HP,HB⟩)|(go_at_call 52;refine(expB HP HB h2).mono ?_;rintro _ wn⟨rfl,HB⟩))
   exact⟨rfl,rfl,(But.of HB1.out).trans HB.out⟩
  |ok un r2=>
   have hlr2:=Qp h2
   show Calls _ _ _ _ (Parsed P tb E w ((need QI r1).bind _) _)
   rw[h2]
   cases h3:Qq (Zu (Ql Qb f)) Qy f r2 with
   |bad er r=>
    show Calls _ _ _ _ (Parsed P tb E w ((Qq (Zu (Ql Qb f)) Qy f r2).bind _) _)
    rw[h3]
    show Calls _ _ _ _ (Parsed P tb E w (PR.bad er r) _)
    go_enter Tryz.func51,Tryz.ntmps51
    go_upto_region 1 with fail
    rw[HW1.out]
    go_wp2_with (first|(go_at_call 78;refine(namH (HE.out.but HB.out hBP) HP HB h1).mono ?_;rintro _ wn⟨rfl,hnz,HP,HB⟩)|(go_at_call 52;refine(expH HP HB h2).mono ?_;rintro _ wn⟨rfl,HP,HB⟩)|(go_at_call 79;refine(MM P tb E _ B _ (HE.out.but HB.out hBP) hBP HP.out Qy (by decide+kernel) 80 #[.pointer (some ⟨P,0,none⟩)] #[] Xp (Zu (Ql Qb f)) (f+1) (by omega) (VW P tb E B hBP (Ql Qb f) f (Xv P tb E B hBP f)) (Xg f) f (by omega)).mono ?_;rw[h3];rintro en wn⟨rfl,hb⟩;replace HB:=hid (HB.out.trans hb);clear hb))
    exact⟨rfl,rfl,(But.of HB1.out).trans HB.out⟩
   |ok ms r3=>
    have hlr3:=Xl (Xg f) _ _ _ _ _ h3
    show Calls _ _ _ _ (Parsed P tb E w ((Qq (Zu (Ql Qb f)) Qy f r2).bind _) _)
    rw[h3]
    cases h4:YS (QT Qb f) r3 with
    |bad er r=>
     show Calls _ _ _ _ (Parsed P tb E w ((YS (QT Qb f) r3).bind _) _)
     rw[h4]
     show Calls _ _ _ _ (Parsed P tb E w (PR.bad er r) _)
     go_enter Tryz.func51,Tryz.ntmps51
     go_upto_region 1 with fail
     rw[HW1.out]
     go_wp2_with (first|(go_at_call 78;refine(namH (HE.out.but HB.out hBP) HP HB h1).mono ?_;rintro _ wn⟨rfl,hnz,HP,HB⟩)|(go_at_call 52;refine(expH HP HB h2).mono ?_;rintro _ wn⟨rfl,HP,HB⟩)|(go_at_call 79;refine(MM P tb E _ B _ (HE.out.but HB.out hBP) hBP HP.out Qy (by decide+kernel) 80 #[.pointer (some ⟨P,0,none⟩)] #[] Xp (Zu (Ql Qb f)) (f+1) (by omega) (VW P tb E B hBP (Ql Qb f) f (Xv P tb E B hBP f)) (Xg f) f (by omega)).mono ?_;rw[h3];rintro en wn⟨⟨kv,rfl,hks⟩,hp,hb⟩;obtain⟨ma,mn,mc,rfl,-⟩:=hks.open;have HPn:=hid hp;have HM:Hid (∀w',But P wn w'->PmSl (fun k=>W1.heap.size<=k/\k<w'.heap.size) w' (.slice ma mn mc) ms):=hid (fun w' hw=>PmSl.mono (fun k hk=>⟨lT HB.out.size hk.1,lL hk.2 hw.size⟩) (PmSl.keep (hw.keeps (fun k hk=>⟨hk.2,by have:=HB.out.size;omega⟩)) hks));have hbn0:=But.refl P wn;have HC:=hid hbn0;have HBn:=hid (HB.out.trans hb);clear hks hbn0;clear hp hb HP HB;have HP:=HPn;have HB:=HBn;clear HPn HBn)|(go_at_call 53;refine(Vs P tb E _ B _ (HE.out.but HB.out hBP) hBP HP.out (QT Qb f) r3.length lR (Vk P tb E B hBP f r3.length (by omega))).mono ?_;rw[h4];rintro en wn⟨rfl,hb⟩;replace HB:=hid (HB.out.trans hb);clear hb))
     exact⟨rfl,rfl,(But.of HB1.out).trans HB.out⟩
    |ok b r=>
     show Calls _ _ _ _ (Parsed P tb E w ((YS (QT Qb f) r3).bind _) _)
     rw[h4]
     show Calls _ _ _ _ (Parsed P tb E w (PR.ok (⟨nm,ms,b⟩:Df) r) _)
     go_enter Tryz.func51,Tryz.ntmps51
     go_upto_region 1 with fail
     rw[HW1.out]
     go_wp2_with (first|(go_at_call 78;refine(namH (HE.out.but HB.out hBP) HP HB h1).mono ?_;rintro _ wn⟨rfl,hnz,HP,HB⟩)|(go_at_call 52;refine(expH HP HB h2).mono ?_;rintro _ wn⟨rfl,HP,HB⟩)|(go_at_call 79;refine(MM P tb E _ B _ (HE.out.but HB.out hBP) hBP HP.out Qy (by decide+kernel) 80 #[.pointer (some ⟨P,0,none⟩)] #[] Xp (Zu (Ql Qb f)) (f+1) (by omega) (VW P tb E B hBP (Ql Qb f) f (Xv P tb E B hBP f)) (Xg f) f (by omega)).mono ?_;rw[h3];rintro en wn⟨⟨kv,rfl,hks⟩,hp,hb⟩;obtain⟨ma,mn,mc,rfl,-⟩:=hks.open;have HPn:=hid hp;have HM:Hid (∀w',But P wn w'->PmSl (fun k=>W1.heap.size<=k/\k<w'.heap.size) w' (.slice ma mn mc) ms):=hid (fun w' hw=>PmSl.mono (fun k hk=>⟨lT HB.out.size hk.1,lL hk.2 hw.size⟩) (PmSl.keep (hw.keeps (fun k hk=>⟨hk.2,by have:=HB.out.size;omega⟩)) hks));have hbn0:=But.refl P wn;have HC:=hid hbn0;have HBn:=hid (HB.out.trans hb);clear hks hbn0;clear hp hb HP HB;have HP:=HPn;have HB:=HBn;clear HPn HBn)|(go_at_call 53;refine(Vs P tb E _ B _ (HE.out.but HB.out hBP) hBP HP.out (QT Qb f) r3.length lR (Vk P tb E B hBP f r3.length (by omega))).mono ?_;rw[h4];rintro en wm⟨⟨v,rfl,hg⟩,hp,hb⟩;obtain⟨la,ln,lc,aa,an,ac,ta,tn,tc,ua,un,uc,ka,kn,kc,rfl⟩:=hg.open;have hms:=HM.out wm hb;have HMS:=hid hms;have HPn:=hid hp;have HG:=hid (hg.mono (show W1.heap.size<=_ from HB.out.size));have HBn:=hid (HB.out.trans hb);clear hg hms HM HC;clear hp hb HP HB;have HP:=HPn;have HB:=HBn;clear HPn HBn;have hx9:=(HB.out.block w.heap.size hs1 (Nat.ne_of_gt hP)).trans HX1.out;obtain⟨⟨q0,q1,q2,q3,q4,q5,q6,q7,q8,q9,q10,q11,q12,q13⟩,z0,z1,z2,z3,z4,z5,z6,z7,z8,z9,z10,z11,z12,z13⟩:=c14p hx9;have HX9:=hid hx9;clear hx9))
     have HDF:Hid (GDf W1.heap.size wm ⟨nm,ms,b⟩ (.agg #[.string nm,.slice ma mn mc,.int .i64 b.k,.string b.c,.string b.x,.slice la ln lc,.slice aa an ac,.int .i64 b.t.k,.int .i64 b.t.p,.string b.t.n,.int .i64 b.t.s,.slice ta tn tc,.slice ua un uc,.slice ka kn kc])):=hid ⟨_,_,_,_,_,_,rfl,hnz,HMS.out,HG.out⟩
     have hx8:=Ex HX9.out (.string nm) (.slice ma mn mc) (.int .i64 b.k) (.string b.c) (.string b.x) (.slice la ln lc) (.slice aa an ac) (.int .i64 b.t.k) (.int .i64 b.t.p) (.string b.t.n) (.int .i64 b.t.s) (.slice ta tn tc) (.slice ua un uc) (.slice ka kn kc)
     obtain⟨⟨y0,y1,y2,y3,y4,y5,y6,y7,y8,y9,y10,y11,y12,y13⟩,-⟩:=c14p hx8
     refine bodyPost_ret (v:= .agg #[.string nm,.slice ma mn mc,.int .i64 b.k,.string b.c,.string b.x,.slice la ln lc,.slice aa an ac,.int .i64 b.t.k,.int .i64 b.t.p,.string b.t.n,.int .i64 b.t.s,.slice ta tn tc,.slice ua un uc,.slice ka kn kc]) (by simp[results,Tryz.results51,go_sem,y0,y1,y2,y3,y4,y5,y6,y7,y8,y9,y10,y11,y12,y13]) rfl ?_
     exact⟨⟨_,rfl,lyDf.mono (fun k hk=>⟨lT (Nat.le_of_lt hs1) hk.1,by rw[Md];exact hk.2⟩) (lyDf.keep (LS hs1 (.string nm) (.slice ma mn mc) (.int .i64 b.k) (.string b.c) (.string b.x) (.slice la ln lc) (.slice aa an ac) (.int .i64 b.t.k) (.int .i64 b.t.p) (.string b.t.n) (.int .i64 b.t.s) (.slice ta tn tc) (.slice ua un uc) (.slice ka kn kc)) HDF.out)⟩,HP.out.oth (X:=w.heap.size) (fun j hj=>NJ hj (.string nm) (.slice ma mn mc) (.int .i64 b.k) (.string b.c) (.string b.x) (.slice la ln lc) (.slice aa an ac) (.int .i64 b.t.k) (.int .i64 b.t.p) (.string b.t.n) (.int .i64 b.t.s) (.slice ta tn tc) (.slice ua un uc) (.slice ka kn kc)) (Md _ _ (.string nm) (.slice ma mn mc) (.int .i64 b.k) (.string b.c) (.string b.x) (.slice la ln lc) (.slice aa an ac) (.int .i64 b.t.k) (.int .i64 b.t.p) (.string b.t.n) (.int .i64 b.t.s) (.slice ta tn tc) (.slice ua un uc) (.slice ka kn kc)) (Nat.ne_of_gt hP) htb,((But.of HB1.out).trans HB.out).put14 lR (.string nm) (.slice ma mn mc) (.int .i64 b.k) (.string b.c) (.string b.x) (.slice la ln lc) (.slice aa an ac) (.int .i64 b.t.k) (.int .i64 b.t.p) (.string b.t.n) (.int .i64 b.t.s) (.slice ta tn tc) (.slice ua un uc) (.slice ka kn kc)⟩
def GPg(b:Nat)(w:World)(g:Pg)(v:Value):Prop:=PgVal (fun k=>b<=k/\k<w.heap.size) w v g
theorem TB(P tb:Nat)(E:Int)(ts:List Tk)(B:Nat)(w:World)(he:Env B w)(hBP:B<=P)(h:PaIs P tb E ts w)(f:Nat)(hf:2*ts.length+2<=f):
 Calls Tryz.prog 24 #[.pointer (some ⟨P,0,none⟩)] w (Parsed P tb E w (Yq Qb f ts) (GPg w.heap.size)):=by
 obtain⟨W1,hW1⟩:∃W1,w.alloc (.cells z13 33)=W1:=⟨_,rfl⟩
 have hb1:=(made hW1).1
 have x1:=(made hW1).2
 have hs1:w.heap.size<W1.heap.size:=(gl x1)
 have hP:P<w.heap.size:=h.lt
 have htb:tb≠w.heap.size:=Nat.ne_of_lt h.tlt
 have HTB:=hid h.tlt
 have HP:Hid (PaIs P tb E ts W1):=hid (h.to hb1)
 have HB:Hid (But P W1 W1):=hid (But.refl _ _)
 have HW1:=hid hW1
 have HB1:=hid hb1
 have HX1:=hid x1
 have HE:=hid (he.to hb1)
 have hlen:ts.length<=1000000:=h.choose_spec.choose_spec.2.2.2.2.1
 have hP1:P<W1.heap.size:=by omega
 have htb1:tb<W1.heap.size:=by have:=h.tlt;omega
 clear hW1 hb1 x1 he h
 go_enter Tryz.func24,Tryz.ntmps24
 go_upto_region 1 with fail
 rw[HW1.out]
 go_wp2_with fail
 go_loopw [3] (fun l wr=>∃(ds:List Df) (rs:List Tk) (vs:List Value) (la:Option Addr) (ln lc g2:Nat),l= .slice la ln lc/\Hid (LRow 61 14 W1.heap.size DfVal (fun _=>False) wr (.slice la ln lc) vs ds)/\Hid (PaIs P tb E rs wr)/\Hid (But P W1 wr)/\Hid (Zk Qb f f ts=(Zk Qb f g2 rs).bind fun m r=> .ok (ds++m) r)/\Hid (rs.length<g2)/\Hid (ds.length+rs.length<=ts.length)) (fun _ wr=>Nh P wr)
 case atStart=>
  refine⟨[],ts,[],_,_,_,f,rfl,hid (LRow.nil _ _ _ _ _ _),HP,HB,hid ?_,hid (by omega),hid (by simp)⟩
  cases Zk Qb f f ts <;> rfl
 case round=>
  obtain⟨ds,rs,vs,la,ln,lc,g2,rfl,HR,HPa,HBo,HEq,HG2,HLn⟩:=hrel
  rename World=>V0
  clear HP HB
  have hg2:=HG2.out
  have hln:=HLn.out
  obtain⟨g3,rfl⟩:∃g,g2=g+1:=⟨g2-1,by omega⟩
  have HLEFT:=hid HPa.out.left
  have hzv:=HBo.out.size
  cases ha:hd sDef rs with
  |true=>
   have hrt:=QH ha
   cases h2:pdef Qb f rs.tail with
   |bad er r2=>
    have e5:Yq Qb f ts= .bad er r2:=by unfold Yq;rw[HEq.out,Zk,if_pos ha,h2];rfl
    go_wp2_with (first|(go_at_call 50;refine(JJ P tb E _ (by decide+kernel) _ _ (by assumption) HPa.out).mono ?_;rintro en w1⟨rfl,hp,hb⟩;have HPw1:=hid hp;have HBw1:=hid (HBo.out.trans hb);clear hp hb)|(go_at_call 51;refine(Fu P tb E rs.tail B w1 (HE.out.but HBw1.out hBP) hBP HPw1.out f (by omega)).mono ?_;rw[h2];rintro en w2⟨rfl,hb⟩;have HBw2:=hid (HBw1.out.trans hb);clear hb))
    exact⟨rfl,by rw[e5];exact⟨rfl,(But.of HB1.out).trans HBw2.out⟩⟩
   |ok d r2=>
    have hl2:=LG f _ _ _ h2
    have e5:Zk Qb f f ts=(Zk Qb f g3 r2).bind fun m r=> .ok (ds++[d]++m) r:=by
     rw[HEq.out,Zk,if_pos ha,h2]
     show PR.bind (PR.bind (Zk Qb f g3 r2) _) _=_
     cases Zk Qb f g3 r2 with
     |bad e r=>rfl
     |ok m r=>show PR.ok (ds++(d::m)) r=PR.ok (ds++[d]++m) r;simp
    have HDV:=hid (But.refl P V0)
    go_wp2_with (first|(go_at_call 50;refine(JJ P tb E _ (by decide+kernel) _ _ (by assumption) HPa.out).mono ?_;rintro en w1⟨rfl,hp,hb⟩;have HPw1:=hid hp;have HBw1:=hid (HBo.out.trans hb);have HBV:=hid (HDV.out.trans hb);clear hp hb)|(go_at_call 51;refine(Fu P tb E rs.tail B w1 (HE.out.but HBw1.out hBP) hBP HPw1.out f (by omega)).mono ?_;rw[h2];rintro en w2⟨⟨v,rfl,hg⟩,hp,hb⟩;obtain⟨ma,mn,mc,qa,qn,qc,aa,an,ac,ta,tn,tc,ua,un,uc,ka,kn,kc,rfl⟩:=DfVal.open hg;have HPw2:=hid hp;have hbw2:=HBw1.out.trans hb;have HG:=hid hg;obtain⟨W3,hW3⟩:∃W3,w2.alloc (.cells #[.string d.n,.slice ma mn mc,.int .i64 d.b.k,.string d.b.c,.string d.b.x,.slice qa qn qc,.slice aa an ac,.int .i64 d.b.t.k,.int .i64 d.b.t.p,.string d.b.t.n,.int .i64 d.b.t.s,.slice ta tn tc,.slice ua un uc,.slice ka kn kc] 61)=W3:=⟨_,rfl⟩;have hb3:Below w2.heap.size w2 W3:=(by rw[<-hW3];exact bR.alloc lR _);have HX3:=hid (show W3.heap[w2.heap.size]? =some (.cells #[.string d.n,.slice ma mn mc,.int .i64 d.b.k,.string d.b.c,.string d.b.x,.slice qa qn qc,.slice aa an ac,.int .i64 d.b.t.k,.int .i64 d.b.t.p,.string d.b.t.n,.int .i64 d.b.t.s,.slice ta tn tc,.slice ua un uc,.slice ka kn kc] 61 (0,0)) by rw[<-hW3];exact World.alloc_heap_new _ _);have hz1:W1.heap.size<=w1.heap.size:=HBw1.out.size;have hbv3:But P V0 W3:=((HBV.out.trans hb)).to hb3;have HRW:=hid (HR.out.frame lyDf (hbv3.o _) hP1 (O':=fun _=>False) (fun _ h=>h.elim));have HV3:Hid (DfVal (fun k=>W1.heap.size<=k/\k<W3.heap.size/\¬False/\some k≠(Value.slice la ln lc).ownBlock) W3 (.agg #[.string d.n,.slice ma mn mc,.int .i64 d.b.k,.string d.b.c,.string d.b.x,.slice qa qn qc,.slice aa an ac,.int .i64 d.b.t.k,.int .i64 d.b.t.p,.string d.b.t.n,.int .i64 d.b.t.s,.slice ta tn tc,.slice ua un uc,.slice ka kn kc]) d):=hid (lyDf.mono (fun k hk=>⟨by omega,lL hk.2 hb3.size,fun h=>h,fun e=>by have:=(HR.out.row.lt k e.symm).2;have:=HBV.out.size;omega⟩) (lyDf.keep ((But.of (P:=P) hb3).keeps (fun k hk=>⟨hk.2,by omega⟩)) HG.out));have HB3:=hid (hbw2.to hb3);have HP3:=hid (HPw2.out.to hb3);have HW3:=hid hW3;have hbW3:W1.heap.size<=W3.heap.size:=HB3.out.size;clear hb3 hbv3 hW3 hbw2 hp hb hg)|(rw[HW3.out];at_builtin;refine Ji FF rfl _ _ rfl rfl HRW.out.row (some ⟨w2.heap.size,0,none⟩) 1 1 [[.string d.n,.slice ma mn mc,.int .i64 d.b.k,.string d.b.c,.string d.b.x,.slice qa qn qc,.slice aa an ac,.int .i64 d.b.t.k,.int .i64 d.b.t.p,.string d.b.t.n,.int .i64 d.b.t.s,.slice ta tn tc,.slice ua un uc,.slice ka kn kc]] rfl rfl ?_ (JY HX3.out) ?_ ?_ hbW3 ?_))
    ·intro e he;rw[mS he];rfl
    ·intro e he u hu;rw[mS he] at hu;exact lyDf.one HV3.out u hu
    ·rw[List.length_map,List.length_singleton,HRW.out.len];omega
    intro ga gn gc w3 hr6 hg6 hq6
    have hown:∀k,(Value.slice la ln lc).ownBlock=some k->W1.heap.size<=k:=fun k hk=>(HRW.out.row.lt k hk).1
    have HR6:=hid (HRW.out.grow lyDf HV3.out hr6 hg6 hq6 (fun _ h=>h.elim))
    have HB6:Hid (But P W1 w3):=hid (((HB3.out.o (fun _=>False)).trans (ButO.grown hg6 P) (fun k hk=> .inr (hown k hk.symm))).but (fun _ _ h=>h))
    have HP6:=hid (HP3.out.grown hg6 (fun e=>by have:=hown P e.symm;omega) (fun e=>by have:=hown tb e.symm;omega))
    clear hr6 hg6 hq6 hown
    go_wp2_with fail
    go_roundw
    case rel=>exact⟨ds++[d],r2,vs++[.agg #[.string d.n,.slice ma mn mc,.int .i64 d.b.k,.string d.b.c,.string d.b.x,.slice qa qn qc,.slice aa an ac,.int .i64 d.b.t.k,.int .i64 d.b.t.p,.string d.b.t.n,.int .i64 d.b.t.s,.slice ta tn tc,.slice ua un uc,.slice ka kn kc]],_,_,_,g3,rfl,HR6,HP6,HB6,hid e5,hid (by omega),hid (by simp only[List.length_append,List.length_singleton];omega)⟩
    case measure=>rw[HP6.out.left,HLEFT.out];omega
  |false=>
   have e4:Zk Qb f f ts= .ok ds rs:=by rw[HEq.out,Zk,if_neg (by rw[ha];simp)];show PR.ok (ds++[]) rs=_;rw[List.append_nil]
   have e4':Yq Qb f ts=(need KB rs).bind fun _ r=>(YS (QT Qb f) r).bind fun m r=> .ok ⟨ds,m⟩ r:=by unfold Yq;rw[e4];rfl
   have HE4:=hid e4'
   clear e4 e4'
   have HDV:=hid (But.refl P V0)
   cases h2:need KB rs with
   |bad er r2=>
    have e5:Yq Qb f ts= .bad er r2:=by rw[HE4.out,h2];rfl
    go_wp2_with (first|(go_at_call 50;refine(Zm P tb E _ (by decide+kernel) _ _ (by assumption) HPa.out).mono ?_;rintro en w1⟨rfl,hp,hb⟩;have HPw1:=hid hp;have HBw1:=hid (HBo.out.trans hb);clear hp hb)|(go_at_call 52;refine(Qv P tb E _ (by decide+kernel) _ _ HPw1.out).mono ?_;rw[h2];rintro en w2⟨rfl,hb⟩;have HBw2:=hid (HBw1.out.trans hb);clear hb))
    exact⟨rfl,rfl,(But.of HB1.out).trans HBw2.out⟩
   |ok un r2=>
    have hl2:=Qp h2
    cases h3:YS (QT Qb f) r2 with
    |bad er r3=>
     have e5:Yq Qb f ts= .bad er r3:=by rw[HE4.out,h2];show PR.bind (YS (QT Qb f) r2) _=_;rw[h3];rfl
     go_wp2_with (first|(go_at_call 50;refine(Zm P tb E _ (by decide+kernel) _ _ (by assumption) HPa.out).mono ?_;rintro en w1⟨rfl,hp,hb⟩;have HPw1:=hid hp;have HBw1:=hid (HBo.out.trans hb);have HBV:=hid (HDV.out.trans hb);clear hp hb)|(go_at_call 52;refine(Qv P tb E _ (by decide+kernel) _ _ HPw1.out).mono ?_;rw[h2];rintro en w2⟨⟨_,rfl,_⟩,hp,hb⟩;have HPw2:=hid hp;have HBw2:=hid (HBw1.out.trans hb);have HBV2:=hid (HBV.out.trans hb);clear hp hb)|(go_at_call 53;refine(Vs P tb E _ B _ (HE.out.but HBw2.out hBP) hBP HPw2.out (QT Qb f) r2.length lR (Vk P tb E B hBP f r2.length (by omega))).mono ?_;rw[h3];rintro en w3⟨rfl,hb⟩;have HBw3:=hid (HBw2.out.trans hb);clear hb))
     exact⟨rfl,rfl,(But.of HB1.out).trans HBw3.out⟩
    |ok m r3=>
     have e5:Yq Qb f ts= .ok ⟨ds,m⟩ r3:=by rw[HE4.out,h2];show PR.bind (YS (QT Qb f) r2) _=_;rw[h3];rfl
     have HE5:=hid e5
     clear e5
     go_wp2_with (first|(go_at_call 50;refine(Zm P tb E _ (by decide+kernel) _ _ (by assumption) HPa.out).mono ?_;rintro en w1⟨rfl,hp,hb⟩;have HPw1:=hid hp;have HBw1:=hid (HBo.out.trans hb);have HBV:=hid (HDV.out.trans hb);clear hp hb)|(go_at_call 52;refine(Qv P tb E _ (by decide+kernel) _ _ HPw1.out).mono ?_;rw[h2];rintro en w2⟨⟨_,rfl,_⟩,hp,hb⟩;have HPw2:=hid hp;have HBw2:=hid (HBw1.out.trans hb);have HBV2:=hid (HBV.out.trans hb);clear hp hb)|(go_at_call 53;refine(Vs P tb E _ B _ (HE.out.but HBw2.out hBP) hBP HPw2.out (QT Qb f) r2.length lR (Vk P tb E B hBP f r2.length (by omega))).mono ?_;rw[h3];rintro en w3⟨⟨v,rfl,hg⟩,hp,hb⟩;obtain⟨xa,xn,xc,aa,an,ac,ta,tn,tc,ua,un,uc,ka,kn,kc,rfl⟩:=hg.open;have HP:=hid hp;have HG:=hid (hg.mono (show W1.heap.size<=_ from HBw2.out.size));have HB:=hid (HBw2.out.trans hb);have HBV3:=hid (HBV2.out.trans hb);clear hg hp hb;have hx9:=(HB.out.block w.heap.size hs1 (Nat.ne_of_gt hP)).trans HX1.out;obtain⟨⟨q0,q1,q2,q3,q4,q5,q6,q7,q8,q9,q10,q11,q12⟩,z0,z1,z2,z3,z4,z5,z6,z7,z8,z9,z10,z11,z12⟩:=c13p hx9;have HX9:=hid hx9;clear hx9))
     have HDS:Hid (DfSl (fun k=>W1.heap.size<=k/\k<w3.heap.size) w3 (.slice la ln lc) ds):=hid (DfSl.mono (fun k hk=>⟨hk.1,hk.2.1⟩) ((HR.out.frame lyDf (HBV3.out.o _) hP1 (O':=fun _=>False) (fun _ h=>h.elim)).dfs (by unfold maxLen;omega)))
     have HGP:Hid (GPg W1.heap.size w3 ⟨ds,m⟩ (.agg #[.slice la ln lc,.int .i64 m.k,.string m.c,.string m.x,.slice xa xn xc,.slice aa an ac,.int .i64 m.t.k,.int .i64 m.t.p,.string m.t.n,.int .i64 m.t.s,.slice ta tn tc,.slice ua un uc,.slice ka kn kc])):=hid ⟨_,_,_,_,_,_,rfl,HDS.out,HG.out⟩
     have hx8:=UC HX9.out (.slice la ln lc) (.int .i64 m.k) (.string m.c) (.string m.x) (.slice xa xn xc) (.slice aa an ac) (.int .i64 m.t.k) (.int .i64 m.t.p) (.string m.t.n) (.int .i64 m.t.s) (.slice ta tn tc) (.slice ua un uc) (.slice ka kn kc)
     obtain⟨⟨y0,y1,y2,y3,y4,y5,y6,y7,y8,y9,y10,y11,y12⟩,-⟩:=c13p hx8
     refine bodyPost_ret (v:= .agg #[.slice la ln lc,.int .i64 m.k,.string m.c,.string m.x,.slice xa xn xc,.slice aa an ac,.int .i64 m.t.k,.int .i64 m.t.p,.string m.t.n,.int .i64 m.t.s,.slice ta tn tc,.slice ua un uc,.slice ka kn kc]) (by simp[results,Tryz.results24,go_sem,y0,y1,y2,y3,y4,y5,y6,y7,y8,y9,y10,y11,y12]) rfl ?_
     rw[HE5.out]
     exact⟨⟨_,rfl,PgVal.mono (fun k hk=>⟨lT (Nat.le_of_lt hs1) hk.1,by rw[Zw];exact hk.2⟩) (PgVal.keep (Gd hs1 (.slice la ln lc) (.int .i64 m.k) (.string m.c) (.string m.x) (.slice xa xn xc) (.slice aa an ac) (.int .i64 m.t.k) (.int .i64 m.t.p) (.string m.t.n) (.int .i64 m.t.s) (.slice ta tn tc) (.slice ua un uc) (.slice ka kn kc)) HGP.out)⟩,HP.out.oth (X:=w.heap.size) (fun j hj=>ZH hj (.slice la ln lc) (.int .i64 m.k) (.string m.c) (.string m.x) (.slice xa xn xc) (.slice aa an ac) (.int .i64 m.t.k) (.int .i64 m.t.p) (.string m.t.n) (.int .i64 m.t.s) (.slice ta tn tc) (.slice ua un uc) (.slice ka kn kc)) (Zw _ _ (.slice la ln lc) (.int .i64 m.k) (.string m.c) (.string m.x) (.slice xa xn xc) (.slice aa an ac) (.int .i64 m.t.k) (.int .i64 m.t.p) (.string m.t.n) (.int .i64 m.t.s) (.slice ta tn tc) (.slice ua un uc) (.slice ka kn kc)) (Nat.ne_of_gt hP) htb,((But.of HB1.out).trans HB.out).put13 lR (.slice la ln lc) (.int .i64 m.k) (.string m.c) (.string m.x) (.slice xa xn xc) (.slice aa an ac) (.int .i64 m.t.k) (.int .i64 m.t.p) (.string m.t.n) (.int .i64 m.t.s) (.slice ta tn tc) (.slice ua un uc) (.slice ka kn kc)⟩
end Go.Proofs.YtmnbheplkidfaaaGreatDoor
namespace Go.Proofs.YtmnbheplkidfaaaGreatDoor
open Go.Lib (hid)
open Go.RowKit Go.Deep Go.Shelf
attribute [local go_sem] Oper.semAt_some
structure Np where
 d:Nat
 b:Nat
 o:Nat
 p:Pr
abbrev GW(x:Np):Array Value:=#[.int .i64 x.d,.pointer (some ⟨x.b,x.o,none⟩)]
def Np.g(x:Np):Nat×Pr:=(x.d,x.p)
mutual
def preP(d:Nat):Pr->List (Nat×Pr)
 | .mk k c x ls vs t ps=>(d,.mk k c x ls vs t ps)::Yo (d+1) ps
def Yo(d:Nat):List Pr->List (Nat×Pr)
 |[]=>[]
 |p::r=>preP d p++Yo d r
end
theorem MD(d:Nat)(p:Pr):preP d p=(d,p)::Yo (d+1) p.ps:=by cases p;simp[preP,Pr.ps]
theorem Xk(d:Nat):∀(l r:List Pr),Yo d (l++r)=Yo d l++Yo d r
 |[],r=>by simp[Yo]
 |p::l,r=>by simp only[List.cons_append,Yo,Xk d l r,List.append_assoc]
theorem DD{d:Nat}{l:List Pr}{j:Nat}{p:Pr}(h:l[j]? =some p):Yo d (l.take (j+1))=Yo d (l.take j)++preP d p:=by
 rw[Qn h,Xk]
 simp[Yo]
theorem Hj(d:Nat)(l:List Pr)(j:Nat):Yo d (l.take j) <+:Yo d l:=by
 conv=>rhs;rw[<-List.take_append_drop j l,Xk]
 exact List.prefix_append _ _
def Pp(S:Nat->Prop)(G:Pr->Prop)(x:Np)(W:World):Prop:=PrAt S W x.p x.b x.o/\(1<=x.d/\x.d<=100000)/\G x.p
theorem Pp.kept{S:Nat->Prop}{G:Pr->Prop}{x:Np}{W W':World}(h:CellsKept W W')(hp:Pp S G x W):Pp S G x W':=⟨hp.1.keep (h.keeps S),hp.2⟩
def Ed(X:Nat->Prop)(J Jx:List Np->World->Prop)(pre:List Np)(d:Nat)(p:Pr)(W:World)(e:Ending)(W':World):Prop:=
 (e= .returned (.bool true)/\(∃ys,ys.map Np.g=preP d p/\J (pre++ys) W')/\Kp X W W')\/
 (e= .returned (.bool false)/\∃ys,ys.map Np.g <+:preP d p/\Jx (pre++ys) W')
theorem Tj(G:Pr->Prop)(hG:∀p,G p->∀u∈p.ps,G u)(F:Fence)(hd:F.depth=none)(hF:∀f,F.fn f)(hro:F.round=none)(l:Nat)(S X:Nat->Prop)(hX:∀k,X k->¬S k)(J Jx:List Np->World->Prop)
 (hY:∀m pre x W,J pre W->Pp S G x W->YieldAt F m Tryz.prog l (GW x) W fun e W'=>(e= .returned (.bool true)/\J (pre++[x]) W'/\Kp X W W')\/(e= .returned (.bool false)/\Jx (pre++[x]) W')):
 ∀(p:Pr) (n d b o:Nat) (pre:List Np) (W:World),J pre W->PrAt S W p b o->d+p.depth<=100000->1<=d->G p->
  CallsIn F n Tryz.prog 136 #[.int .i64 d,.pointer (some ⟨b,o,none⟩),.func (.yield l) #[] #[]] W (Ed X J Jx pre d p W):=by
 refine Pr.ind ?_
 intro k c x ls vs t ps ih n d b o pre W hj hpr hdep hd1 hg0
 obtain⟨p,hp0⟩:∃p,Pr.mk k c x ls vs t ps=p:=⟨_,rfl⟩
 have hps:ps=p.ps:=by rw[<-hp0];rfl
 rw[hp0] at hpr hdep hg0 |-
 have hdd:∀k:Nat,(F.depth.isSome=true->1<=k):=fun k h=>by rw[hd] at h;cases h
 have hpos:=p.depth_pos
 obtain⟨fn,tmps,assign,body,hy,hR⟩:=hY (n-1) pre ⟨d,b,o,p⟩ W hj ⟨hpr,⟨hd1,by show d<=_;omega⟩,hg0⟩
 simp only[GW] at hy
 have HR:=hid hR
 have HGK:=hid (hG p hg0)
 have HPR:=hid hpr
 have HPS:=hid hps
 have HIH:=hid ih
 clear hR hg0 hpr hps hp0 hj ih
 refine callsIn_of_wp Tryz.func136 rfl (hF _) ?_ hro
 simp only[Tryz.ntmps136,List.size_toArray,List.length_cons,List.length_nil,Nat.reduceAdd,Nat.reduceSub,Array.replicate_succ,Array.replicate_zero,List.push_toArray,List.append_toArray,List.nil_append,List.cons_append]
 gi_wp2_with fail
 refine HR.out.mono ?_
 rintro e W2 (⟨rfl,hj2,hk2⟩|⟨rfl,hx2⟩)
 ·have hkS:Keeps S W W2:=hk2.keeps (fun k hk=>⟨fun hx=>hX k hx hk,by simp[Value.ownBlock]⟩)
  obtain⟨la,ln,lc,aa,an,ac,ta,tn,tc,ua,un,uc,ka,kn,kc,⟨_,_,_,_,_,_,_,_,_,_,_,c11⟩,hval⟩:=(HPR.out.keep hkS).load'
  obtain⟨_,_,_,_,_,e,_,_,_,_,hks⟩:=hval
  simp only[QW,Value.agg.injEq,Array.mk.injEq,List.cons.injEq,and_true,true_and] at e
  obtain⟨rfl,rfl,rfl,rfl,rfl⟩:=e
  obtain⟨ka',kn',kc',he,hlen,hmx,hget⟩:=hks.open
  simp only[Value.slice.injEq] at he
  obtain⟨rfl,rfl,rfl⟩:=he
  have hSb:S b:=(PrAt.eq.1 HPR.out).1
  have HG:=hid hget
  have HC:=hid c11
  have HJ2:=hid hj2
  have HK2:=hid hk2
  clear hget hj2 hk2 hkS hks hy
  gi_wp2_with fail
  gi_loopw [18] (fun i wr=>∃(j:Nat) (ys:List Np),i= .int .i64 j/\j<=kn/\Hid (ys.map Np.g=Yo (d+1) (p.ps.take j))/\Hid (J (pre++[⟨d,b,o,p⟩]++ys) wr)/\Hid (Kp X W2 wr)) (fun i _=>kn-(intOf i).toNat)
  case atStart=>exact⟨0,[],rfl,by omega,hid (by simp[Yo]),hid (by rw[List.append_nil];exact HJ2.out),hid (KV.refl _ _ _)⟩
  case round=>
   obtain⟨j,ys,rfl,hj,HYS,HJJ,HKV⟩:=hrel
   by_cases hlt:j<kn
   ·obtain⟨u,hu⟩:∃u,p.ps[j]? =some u:=⟨_,List.getElem?_eq_getElem (by rw[<-hlen.out];exact hlt)⟩
    obtain⟨kb,ko,rfl,hkb,hu'⟩:=HG.out j u hu
    have hkS:Keeps S W2 wr:=HKV.out.keeps (fun k hk=>⟨fun hx=>hX k hx hk,by simp[Value.ownBlock]⟩)
    have c11:=hkS.cell hSb HC.out
    have hmem:u∈ps:=by rw[HPS.out];exact List.mem_of_getElem? hu
    have hdu:u.depth+1<=p.depth:=by rw[p.depth_eq];have:=Pr.depth_mem (List.mem_of_getElem? hu);omega
    have IH:=hid (fun n'=>HIH.out u hmem n' (d+1) kb (ko+j*12) (pre++[⟨d,b,o,p⟩]++ys) wr HJJ.out (hu'.keep hkS) (by omega) (by omega) (HGK.out u (List.mem_of_getElem? hu)))
    have hcast:(((d+1:Nat)):Int)=(d:Int)+1:=by omega
    rw[hcast] at IH
    have HPT:=hid (DD (d:=d+1) hu)
    have HPP:=hid (Hj (d+1) p.ps (j+1))
    clear hu hu' hkS hmem hdu hcast
    gi_wp2_with fail
    refine(IH.out _).mono ?_
    rintro e w4 (⟨rfl,⟨zs,hz1,hz2⟩,hkv⟩|⟨rfl,zs,hz1,hz2⟩)
    ·have hys:Hid ((ys++zs).map Np.g=Yo (d+1) (p.ps.take (j+1))):=hid (by rw[List.map_append,HYS.out,hz1,HPT.out])
     have hjj:Hid (J (pre++[⟨d,b,o,p⟩]++(ys++zs)) w4):=hid (by rw[<-List.append_assoc];exact hz2)
     have hkk:=hid (HKV.out.trans hkv)
     clear hz1 hz2 hkv
     gi_wp2_with fail
     exact⟨⟨j+1,ys++zs,by go_num,by omega,hys,hjj,hkk⟩,by simp[intOf];omega⟩
    ·have hq:∃q,q.map Np.g <+:preP d p/\Jx (pre++q) w4:=by
      refine⟨[⟨d,b,o,p⟩]++(ys++zs),?_,by simpa [List.append_assoc] using hz2⟩
      rw[MD,List.map_append,List.map_append,HYS.out]
      refine(List.prefix_cons_inj _).2 ((List.IsPrefix.trans ?_ HPP.out))
      rw[HPT.out]
      refine(List.prefix_append_right_inj _).2 ?_
      simpa using hz1
     have HQ:=hid hq
     clear hz1 hz2 hq
     gi_wp2
     go_ret
     exact .inr ⟨rfl,HQ.out⟩
   ·obtain rfl:j=kn:=by omega
    have hq:∃q,q.map Np.g=preP d p/\J (pre++q) wr:=by
     refine⟨[⟨d,b,o,p⟩]++ys,?_,by simpa [List.append_assoc] using HJJ.out⟩
     rw[MD,List.map_append,HYS.out,List.take_of_length_le (by rw[hlen.out];exact lR)]
     rfl
    have HQ:=hid hq
    clear hq
    gi_wp2
    go_ret
    exact .inl ⟨rfl,HQ.out,HK2.out.trans HKV.out⟩
 ·gi_wp2
  go_ret
  exact .inr ⟨rfl,[_],by rw[MD];exact⟨Yo (d+1) p.ps,rfl⟩,hx2⟩
theorem DG(a:Option Addr)(w:World):
 Calls Tryz.prog 114 #[.pointer a] w fun e w'=>e= .returned (.func (.func 135) #[] #[.pointer (some ⟨w.heap.size,0,none⟩)])/\w'=w.alloc (.cells #[.pointer a] 147):=by
 go_enter Tryz.func114,Tryz.ntmps114
 go_wp2
 go_ret
 exact⟨rfl,rfl⟩
theorem Hl(G:Pr->Prop)(hG:∀p,G p->∀u∈p.ps,G u)(n:Nat)(Bt b o:Nat)(p:Pr)(S X:Nat->Prop)(w:World)(hX:∀k,X k->¬S k)(hS:∀k,S k->k<w.heap.size)(hBt:Bt<w.heap.size)(hc:w.cell? ⟨Bt,0,none⟩=some (.pointer (some ⟨b,o,none⟩)))(hpr:PrAt S w p b o)(hdep:p.depth<=99999)(hg:G p):
 Li Fence.wide n Tryz.prog 135 #[.pointer (some ⟨Bt,0,none⟩)] GW (Pp S G) (Kp X) (fun ys=>ys.map Np.g=preP 1 p) (fun pre=>pre.map Np.g <+:preP 1 p) w:=by
 intro l J Jx W hW hJ _ hY h0
 have hp:=Tj G hG Fence.wide rfl (fun _=>trivial) rfl l S X hX J Jx (fun m pre x W1 hj hpx=>UL rfl m (hY pre x W1 hj hpx)) p (n-1) 1 b o [] W h0 (hpr.keep (hW.keeps'.mono hS)) (by omega) (by omega) hg
 have hc':=(hW.cell (p:=⟨Bt,0,none⟩) hBt).trans hc
 have HP:=hid hp
 clear hp hY h0 hJ
 refine callsIn_of_wp Tryz.func135 rfl trivial ?_ rfl
 simp only[Tryz.ntmps135,List.size_toArray,List.length_cons,List.length_nil,Nat.reduceAdd,Nat.reduceSub,Array.replicate_succ,Array.replicate_zero,List.push_toArray,List.append_toArray,List.nil_append,List.cons_append]
 gi_wp2_with fail
 refine⟨trivial,⟨fun h=>(by cases h),?_⟩⟩
 refine HP.out.mono ?_
 rintro e W1 (⟨rfl,⟨ys,h1,h2⟩,_⟩|⟨rfl,ys,h1,h2⟩)
 ·have H1:=hid h1
  have H2:=hid h2
  clear h1 h2
  gi_wp2
  go_end0
  exact⟨⟨_,rfl⟩,.inl ⟨ys,H1.out,by simpa using H2.out⟩⟩
 ·have H1:=hid h1
  have H2:=hid h2
  clear h1 h2
  gi_wp2
  go_end0
  exact⟨⟨_,rfl⟩,.inr ⟨ys,H1.out,by simpa using H2.out⟩⟩
end Go.Proofs.YtmnbheplkidfaaaGreatDoor
namespace Go.Proofs.YtmnbheplkidfaaaGreatDoor
open Go.RowKit Go.Deep Go.Shelf
attribute [local go_sem] Oper.semAt_some
abbrev Zl(p:Pr)(lv av tl tk kv:Value):Obj:= .cells #[.int .i64 p.k,.string p.c,.string p.x,lv,av,.int .i64 p.t.k,.int .i64 p.t.p,.string p.t.n,.int .i64 p.t.s,tl,tk,kv] 31
end Go.Proofs.YtmnbheplkidfaaaGreatDoor
namespace Go.Proofs.YtmnbheplkidfaaaGreatDoor
open Go.RowKit Go.Deep Go.Shelf
attribute [local go_sem] Oper.semAt_some
end Go.Proofs.YtmnbheplkidfaaaGreatDoor
namespace Go.Proofs.YtmnbheplkidfaaaGreatDoor
open Go.RowKit
noncomputable def eqV (vs vs':List Vl):Bool:= @decide (vs=vs') (Classical.propDecidable _)
theorem eqV_true{t u:List Vl}:eqV t u=true↔t=u:=by unfold eqV;simp
theorem SW{t u:List Vl}(h:t≠u):eqV t u=false:=by
 cases e:eqV t u with
 |false=>rfl
 |true=>exact absurd (eqV_true.1 e) h
def In64(k:Int):Prop:= -9223372036854775808<=k/\k<=9223372036854775807
end Go.Proofs.YtmnbheplkidfaaaGreatDoor
namespace Go.Proofs.YtmnbheplkidfaaaGreatDoor
open Go.RowKit Go.Deep Go.Shelf
attribute [local go_sem] Oper.semAt_some
end Go.Proofs.YtmnbheplkidfaaaGreatDoor
namespace Go.Proofs.YtmnbheplkidfaaaGreatDoor
open Go.RowKit Go.Deep Go.Shelf
attribute [local go_sem] Oper.semAt_some
end Go.Proofs.YtmnbheplkidfaaaGreatDoor
namespace Go.Proofs.YtmnbheplkidfaaaGreatDoor
open Go.RowKit
end Go.Proofs.YtmnbheplkidfaaaGreatDoor
namespace Go.Proofs.YtmnbheplkidfaaaGreatDoor
open Go.RowKit Go.Deep Go.Shelf
attribute [local go_sem] Oper.semAt_some
mutual
def Ty.fine:Ty->Prop
 | .mk k _ _ _ _ ts=>In64 k/\Ty.fines ts
def Ty.fines:List Ty->Prop
 |[]=>True
 |t::r=>t.fine/\Ty.fines r
end
theorem Zz{A B:World}(h:Below A.heap.size A B):KeepsOthers A B:=⟨h.size,fun k _ hk _=>(h.block k (Array.getElem?_eq_some_iff.1 hk).1).trans hk⟩
end Go.Proofs.YtmnbheplkidfaaaGreatDoor
namespace Go.Proofs.YtmnbheplkidfaaaGreatDoor
open Go.RowKit Go.Deep Go.Shelf
def e0:ByteArray:=⟨#[]⟩
end Go.Proofs.YtmnbheplkidfaaaGreatDoor
namespace Go.Proofs.YtmnbheplkidfaaaGreatDoor
open Go.RowKit
end Go.Proofs.YtmnbheplkidfaaaGreatDoor
namespace Go.Proofs.YtmnbheplkidfaaaGreatDoor
open Go.RowKit Go.Deep Go.Shelf
end Go.Proofs.YtmnbheplkidfaaaGreatDoor
namespace Go.Proofs.YtmnbheplkidfaaaGreatDoor
open Go.Lib (hid)
open Go.RowKit Go.Deep Go.Shelf
def Pr.adds(p:Pr):Nat:=if p.k=6 then 1+p.t.size else 1
theorem GG(S:Nat->Prop)(p:Pr)(b o:Nat)(w:World)(hS:Low S w)(hsz:p.t.size<=1000000)(hdep:p.t.depth<=100000)(hp:PrAt S w p b o):
 Calls Tryz.prog 115 #[.pointer (some ⟨b,o,none⟩)] w fun e w'=>e= .returned (.int .i64 p.adds)/\Below w.heap.size w w':=by
 obtain⟨hSb,_,⟨c0,_,_⟩,hty,_⟩:=PrAt.eq.1 hp
 obtain⟨la,ln,lc,ka,kn,kc,⟨d0,d1,d2,d3,d4,d5⟩,hv⟩:=hty.load'
 have HT:=hid (UM S p.t hsz hdep _ w hS hv)
 unfold Pr.adds
 obtain⟨k,hk⟩:∃k,p.k=k:=⟨_,rfl⟩
 obtain⟨q,hq⟩:∃q,p.t.size=q:=⟨_,rfl⟩
 rw[hq] at HT hsz |-
 rw[hk] at c0 |-
 clear hty hv hp hk hq hdep
 by_cases h6:k=6
 ·subst h6
  rw[if_pos rfl]
  go_enter Tryz.func115,Tryz.ntmps115
  go_wp2_with (go_at_call 70;refine HT.out.mono ?_;rintro e w2⟨rfl,hb2⟩)
  go_ret
  exact⟨Jh (by simp),hb2⟩
 ·have h6':(k==6)=false:=by simpa using h6
  rw[if_neg h6]
  clear h6
  go_enter Tryz.func115,Tryz.ntmps115
  go_wp2_with fail
  go_ret
  exact⟨rfl,bR⟩
end Go.Proofs.YtmnbheplkidfaaaGreatDoor
namespace Go.Proofs.YtmnbheplkidfaaaGreatDoor
open Go.RowKit Go.Deep Go.Shelf
noncomputable def eqP (p q:Pr):Bool:= @decide (p=q) (Classical.propDecidable _)
theorem eqP_true{p q:Pr}:eqP p q=true↔p=q:=by unfold eqP;simp
theorem Ey{p q:Pr}(h:p≠q):eqP p q=false:=by
 cases e:eqP p q with
 |false=>rfl
 |true=>exact absurd (eqP_true.1 e) h
noncomputable def eqQ (p q:List Pr):Bool:= @decide (p=q) (Classical.propDecidable _)
theorem eqQ_true{p q:List Pr}:eqQ p q=true↔p=q:=by unfold eqQ;simp
theorem SX{p q:List Pr}(h:p≠q):eqQ p q=false:=by
 cases e:eqQ p q with
 |false=>rfl
 |true=>exact absurd (eqQ_true.1 e) h
end Go.Proofs.YtmnbheplkidfaaaGreatDoor
namespace Go.Proofs.YtmnbheplkidfaaaGreatDoor
open Go.RowKit
end Go.Proofs.YtmnbheplkidfaaaGreatDoor
namespace Go.Proofs.YtmnbheplkidfaaaGreatDoor
open Go.RowKit Go.Deep Go.Shelf
end Go.Proofs.YtmnbheplkidfaaaGreatDoor
namespace Go.Proofs.YtmnbheplkidfaaaGreatDoor
open Go.RowKit Go.Deep
mutual
def Pr.fine:Pr->Prop
 | .mk k _ _ _ _ t ps=>In64 k/\t.fine/\Pr.fines ps
def Pr.fines:List Pr->Prop
 |[]=>True
 |p::r=>p.fine/\Pr.fines r
end
theorem Pr.fines_mem:∀ {l:List Pr},Pr.fines l->∀u∈l,u.fine
 |[],_,_,hu=>by cases hu
 |t::r,h,u,hu=>by
  rcases List.mem_cons.1 hu with rfl|hu
  ·exact h.1
  ·exact Pr.fines_mem h.2 u hu
theorem Pr.fine_ps{p:Pr}(h:p.fine):∀u∈p.ps,u.fine:=by cases p;exact Pr.fines_mem h.2.2
end Go.Proofs.YtmnbheplkidfaaaGreatDoor
namespace Go.Proofs.YtmnbheplkidfaaaGreatDoor
open Go.Lib (hid)
open Go.RowKit
theorem Gv(B:Nat->Prop)(p:Pr)(lv av tl tk kv:Value)(hts:Pr.sizes p.ps<=1000000)
 (ih:∀u∈p.ps,∀(v:Value) (w:World),Low B w->PrVal B w v u->Calls Tryz.prog 89 #[v] w fun e w'=>e= .returned (.int .i64 u.size)/\Below w.heap.size w w')
 (w:World) (hB:Low B w) (hk:PrSl B w kv p.ps):
 Calls Tryz.prog 89 #[QW p lv av tl tk kv] w fun e w'=>e= .returned (.int .i64 ((Pr.sizes p.ps+1:Nat):Int))/\Below w.heap.size w w':=by
 obtain⟨pa,len,c,rfl,hlen,hm,hget⟩:=hk.open
 have HG:=hid hget
 have HIH:=hid ih
 clear hget hk ih
 obtain⟨ps,hps⟩:∃ps,p.ps=ps:=⟨_,rfl⟩
 rw[hps] at HG hlen hts HIH |-
 clear hps
 unfold QW
 go_enter Tryz.func89,Tryz.ntmps89
 go_wp2_with fail
 go_loopw [3,4] (fun a i wr=>∃j:Nat,i= .int .i64 j/\j<=len/\a= .int .i64 ((Pr.sizes (ps.take j)+1:Nat):Int)/\Below (w.heap.size+1) (w.alloc (Zl p lv av tl tk (.slice pa len c))) wr) (fun _ i _=>len-(intOf i).toNat)
 case atStart=>exact⟨0,rfl,by omega,by simp[Pr.sizes],bR⟩
 case round=>
  obtain⟨j,rfl,hj,rfl,hb⟩:=hrel
  have c11:wr.cell? ⟨w.heap.size,11,none⟩=some (.slice pa len c):=JB hb 11 rfl
  have hw:=Yc hb
  by_cases hlt:j<len
  ·obtain⟨t,ht⟩:∃t,ps[j]? =some t:=⟨_,List.getElem?_eq_getElem (by rw[<-hlen.out];exact hlt)⟩
   obtain⟨kb,ko,rfl,hkb,hty⟩:=HG.out j t ht
   obtain⟨la',ln',lc',aa',an',ac',ta',tn',tc',ua',un',uc',ka',kn',kc',⟨d0,d1,d2,d3,d4,d5,d6,d7,d8,d9,d10,d11⟩,hval⟩:=(hty.keep (hw.keeps'.mono hB)).load'
   have hsz:=Pr.sizes_take ht
   have hle:=Pr.sizes_take_le ps (j+1)
   have IH:=hid (HIH.out t (List.mem_of_getElem? ht) _ wr (hB.le hw.size) hval)
   obtain⟨a0,ha0⟩:∃a0,Pr.sizes (ps.take j)+1=a0:=⟨_,rfl⟩
   have HA:=hid hsz
   have ha1:a0+t.size<=1000001:=by omega
   have HA0:=hid ha0
   rw[ha0]
   unfold QW at IH
   clear hsz ha0 ht hval hty
   go_wp2_with (go_at_call 89;refine IH.out.mono ?_;rintro e w1⟨rfl,hb1⟩)
   go_roundw
   case rel=>exact⟨j+1,by go_num,by omega,YZ (by rw[HA.out];have:=HA0.out;omega),hb.trans (hb1.mono (by have:=hb.size;simpa using this))⟩
   case measure=>simp[intOf];omega
  ·obtain rfl:j=len:=by omega
   go_wp2_with fail
   go_ret
   exact⟨Jh (by rw[List.take_of_length_le (by rw[hlen.out];exact lR)]),hw⟩
theorem Mg(B:Nat->Prop):∀(p:Pr),p.size<=1000000->∀(v:Value) (w:World),Low B w->PrVal B w v p->Calls Tryz.prog 89 #[v] w fun e w'=>e= .returned (.int .i64 p.size)/\Below w.heap.size w w':=by
 refine Pr.ind ?_
 intro k c x ls vs t ps ih hsz v w hB hv
 obtain⟨lv,av,tl,tk,kv,rfl,_,_,_,_,hk⟩:=hv
 have h1:Pr.sizes ps<=1000000:=by rw[Pr.size_eq] at hsz;simp only[Pr.ps] at hsz;omega
 have:=Gv B (.mk k c x ls vs t ps) lv av tl tk kv h1 (fun u hu=>ih u hu (lT (Pr.size_mem hu) h1)) w hB hk
 rw[Pr.size_eq];exact this
theorem Hk(B:Nat->Prop)(p:Pr)(lv av tl tk kv:Value)(hts:Pr.depths p.ps<=1000000)
 (ih:∀u∈p.ps,∀(v:Value) (w:World),Low B w->PrVal B w v u->Calls Tryz.prog 88 #[v] w fun e w'=>e= .returned (.int .i64 u.depth)/\Below w.heap.size w w')
 (w:World) (hB:Low B w) (hk:PrSl B w kv p.ps):
 Calls Tryz.prog 88 #[QW p lv av tl tk kv] w fun e w'=>e= .returned (.int .i64 ((Pr.depths p.ps+1:Nat):Int))/\Below w.heap.size w w':=by
 obtain⟨pa,len,c,rfl,hlen,hm,hget⟩:=hk.open
 have HG:=hid hget
 have HIH:=hid ih
 clear hget hk ih
 obtain⟨ps,hps⟩:∃ps,p.ps=ps:=⟨_,rfl⟩
 rw[hps] at HG hlen hts HIH |-
 clear hps
 unfold QW
 go_enter Tryz.func88,Tryz.ntmps88
 go_wp2_with fail
 go_loopw [3,4] (fun a i wr=>∃j:Nat,i= .int .i64 j/\j<=len/\a= .int .i64 ((Pr.depths (ps.take j):Nat):Int)/\Below (w.heap.size+1) (w.alloc (Zl p lv av tl tk (.slice pa len c))) wr) (fun _ i _=>len-(intOf i).toNat)
 case atStart=>exact⟨0,rfl,by omega,by simp[Pr.depths],bR⟩
 case round=>
  obtain⟨j,rfl,hj,rfl,hb⟩:=hrel
  have c11:wr.cell? ⟨w.heap.size,11,none⟩=some (.slice pa len c):=JB hb 11 rfl
  have hw:=Yc hb
  by_cases hlt:j<len
  ·obtain⟨t,ht⟩:∃t,ps[j]? =some t:=⟨_,List.getElem?_eq_getElem (by rw[<-hlen.out];exact hlt)⟩
   obtain⟨kb,ko,rfl,hkb,hty⟩:=HG.out j t ht
   obtain⟨la',ln',lc',aa',an',ac',ta',tn',tc',ua',un',uc',ka',kn',kc',⟨d0,d1,d2,d3,d4,d5,d6,d7,d8,d9,d10,d11⟩,hval⟩:=(hty.keep (hw.keeps'.mono hB)).load'
   have hsz:=Pr.depths_take ht
   have hle:=Pr.depths_take_le ps (j+1)
   have IH:=hid (HIH.out t (List.mem_of_getElem? ht) _ wr (hB.le hw.size) hval)
   obtain⟨a0,ha0⟩:∃a0,Pr.depths (ps.take j)=a0:=⟨_,rfl⟩
   have HA:=hid hsz
   have ha1:max a0 t.depth<=1000000:=by omega
   have HA0:=hid ha0
   rw[ha0]
   unfold QW at IH
   clear hsz ha0 ht hval hty
   go_wp2_with (go_at_call 88;refine IH.out.mono ?_;rintro e w1⟨rfl,hb1⟩)
   go_roundw
   case rel=>exact⟨j+1,by go_num,by omega,YZ (by rw[HA.out];have:=HA0.out;omega),hb.trans (hb1.mono (by have:=hb.size;simpa using this))⟩
   case measure=>simp[intOf];omega
  ·obtain rfl:j=len:=by omega
   have hle:=Pr.depths_take_le ps j
   go_wp2_with fail
   go_ret
   exact⟨Jh (by rw[List.take_of_length_le (by rw[hlen.out];exact lR)];omega),hw⟩
theorem Gx(B:Nat->Prop):∀(p:Pr),p.depth<=1000000->∀(v:Value) (w:World),Low B w->PrVal B w v p->Calls Tryz.prog 88 #[v] w fun e w'=>e= .returned (.int .i64 p.depth)/\Below w.heap.size w w':=by
 refine Pr.ind ?_
 intro k c x ls vs t ps ih hsz v w hB hv
 obtain⟨lv,av,tl,tk,kv,rfl,_,_,_,_,hk⟩:=hv
 have h1:Pr.depths ps<=1000000:=by rw[Pr.depth_eq] at hsz;simp only[Pr.ps] at hsz;omega
 have:=Hk B (.mk k c x ls vs t ps) lv av tl tk kv h1 (fun u hu=>ih u hu (lT (Pr.depth_mem hu) h1)) w hB hk
 rw[Pr.depth_eq];exact this
theorem UQ{B:Nat->Prop}{w:World}{t:Ty}{k p s:Int}{n:ByteArray}{tl tk:Value}(h:TyVal B w (.agg #[.int .i64 k,.int .i64 p,.string n,.int .i64 s,tl,tk]) t):(∃(a:Option Addr) (n c:Nat),tl= .slice a n c)/\∃(a:Option Addr) (n c:Nat),tk= .slice a n c:=by
 obtain⟨lv',kv',e,_,hl,hk2⟩:=h
 simp only[Value.agg.injEq,Array.mk.injEq,List.cons.injEq,and_true] at e
 obtain⟨_,_,_,_,rfl,rfl⟩:=e
 obtain⟨a,n,c,e,_⟩:=hl.open
 obtain⟨a',n',c',e',_⟩:=hk2.open
 exact⟨⟨a,n,c,e⟩,a',n',c',e'⟩
mutual
def Pr.typ:Pr->Nat
 | .mk k _ _ _ _ t ps=>(if k=6 then t.size else 0)+Pr.typs ps
def Pr.typs:List Pr->Nat
 |[]=>0
 |p::r=>p.typ+Pr.typs r
end
def Pr.typ0(p:Pr):Nat:=if p.k=6 then p.t.size else 0
theorem Pr.typ_eq(p:Pr):p.typ=p.typ0+Pr.typs p.ps:=by
 cases p
 rename_i k _ _ _ _ _ _
 by_cases h:k=6 <;> simp[Pr.typ,Pr.ps,Pr.typ0,Pr.k,Pr.t,h]
theorem Pr.typs_append(l r:List Pr):Pr.typs (l++r)=Pr.typs l+Pr.typs r:=by
 induction l with
 |nil=>simp[Pr.typs]
 |cons t l ih=>simp only[List.cons_append,Pr.typs,ih];omega
theorem Pr.typs_take{l:List Pr}{i:Nat}{p:Pr}(h:l[i]? =some p):Pr.typs (l.take (i+1))=Pr.typs (l.take i)+p.typ:=by
 rw[Qn h,Pr.typs_append];simp[Pr.typs]
theorem Pr.typs_take_le(l:List Pr)(i:Nat):Pr.typs (l.take i)<=Pr.typs l:=by
 have:=Pr.typs_append (l.take i) (l.drop i);rw[List.take_append_drop] at this;omega
theorem Pr.typ_mem{l:List Pr}{p:Pr}(h:p∈l):p.typ<=Pr.typs l:=by
 induction l with
 |nil=>cases h
 |cons u l ih=>
  simp only[Pr.typs]
  rcases List.mem_cons.1 h with rfl|h
  ·omega
  ·have:=ih h;omega
mutual
def Pr.tf:Pr->Prop
 | .mk _ _ _ _ _ t ps=>(t.size<=100000/\t.depth<=100000)/\Pr.tfs ps
def Pr.tfs:List Pr->Prop
 |[]=>True
 |p::r=>p.tf/\Pr.tfs r
end
theorem Pr.tf_t{p:Pr}(h:p.tf):(p.t.size<=100000/\p.t.depth<=100000):=by cases p;exact h.1
theorem Pr.tfs_mem:∀ {l:List Pr},Pr.tfs l->∀u∈l,u.tf
 |[],_,_,hu=>by cases hu
 |t::r,h,u,hu=>by
  rcases List.mem_cons.1 hu with rfl|hu
  ·exact h.1
  ·exact Pr.tfs_mem h.2 u hu
theorem Pr.tf_ps{p:Pr}(h:p.tf):∀u∈p.ps,u.tf:=by cases p;exact Pr.tfs_mem h.2
theorem Pr.tf_size{p:Pr}(h:p.tf):p.t.size<=100000:=(Pr.tf_t h).1
theorem Pr.tf_depth{p:Pr}(h:p.tf):p.t.depth<=100000:=(Pr.tf_t h).2
theorem Dz(B:Nat->Prop)(p:Pr)(lv av tl tk kv:Value)(hts:p.typ<=1000000000)(hsz:p.t.size<=1000000)
 (ih:∀u∈p.ps,∀(v:Value) (w:World),Low B w->PrVal B w v u->Calls Tryz.prog 90 #[v] w fun e w'=>e= .returned (.int .i64 u.typ)/\Below w.heap.size w w')
 (w:World) (hB:Low B w) (hty:TyVal B w (.agg #[.int .i64 p.t.k,.int .i64 p.t.p,.string p.t.n,.int .i64 p.t.s,tl,tk]) p.t) (hk:PrSl B w kv p.ps):
 Calls Tryz.prog 90 #[QW p lv av tl tk kv] w fun e w'=>e= .returned (.int .i64 (p.typ:Int))/\Below w.heap.size w w':=by
 have hb0:Below w.heap.size w (w.alloc (Zl p lv av tl tk kv)):=bR.alloc lR _
 have HSz:Hid (p.k=6->Calls Tryz.prog 40 #[.agg #[.int .i64 p.t.k,.int .i64 p.t.p,.string p.t.n,.int .i64 p.t.s,tl,tk]] (w.alloc (Zl p lv av tl tk kv)) fun e w'=>e= .returned (.int .i64 ((p.typ0:Nat):Int))/\Below (w.alloc (Zl p lv av tl tk kv)).heap.size (w.alloc (Zl p lv av tl tk kv)) w'):=hid (fun h=>by
  have e:p.typ0=p.t.size:=by unfold Pr.typ0;rw[if_pos h]
  rw[e]
  exact NB B p.t hsz _ _ (hB.le hb0.size) (hty.keep (hb0.keeps'.mono hB)))
 have HZ:Hid (p.k≠6->p.typ0=0):=hid (fun h=>by unfold Pr.typ0;rw[if_neg h])
 have hte:=p.typ_eq
 obtain⟨pa,len,c,rfl,hlen,hm,hget⟩:=hk.open
 have HG:=hid hget
 have HIH:=hid ih
 obtain⟨ps,hps⟩:∃ps,p.ps=ps:=⟨_,rfl⟩
 obtain⟨z,hz⟩:∃z,p.typ0=z:=⟨_,rfl⟩
 obtain⟨q,hq⟩:∃q,p.typ=q:=⟨_,rfl⟩
 rw[hps] at HG hlen HIH hte
 rw[hz] at HSz HZ hte
 rw[hq] at hts hte |-
 have HTE:=hid hte
 have hzz:z<=1000000000:=by omega
 have hte2:z+Pr.typs ps<=1000000000:=by omega
 obtain⟨tla,tln,tlc,htl⟩:∃a n c,tl= .slice a n c:=by
  obtain⟨lv',kv',e,_,hl,hk2⟩:=hty
  simp only[Value.agg.injEq,Array.mk.injEq,List.cons.injEq,and_true,true_and] at e
  obtain⟨rfl,rfl⟩:=e
  obtain⟨a,n,c,e,_⟩:=hl.open
  exact⟨a,n,c,e⟩
 obtain⟨tka,tkn,tkc,htk⟩:∃a n c,tk= .slice a n c:=by
  obtain⟨lv',kv',e,_,hl,hk2⟩:=hty
  simp only[Value.agg.injEq,Array.mk.injEq,List.cons.injEq,and_true,true_and] at e
  obtain⟨rfl,rfl⟩:=e
  obtain⟨a,n,c,e,_⟩:=hk2.open
  exact⟨a,n,c,e⟩
 subst htl htk
 clear hget hk ih hps hz hq hte hty hb0
 unfold QW
 by_cases h6:p.k=6
 all_goals
  first
   |(have h6':(p.k==6)=true:=(by simpa using h6);have HS1:=hid (HSz.out h6);have HZ1:Hid (z=z):=hid rfl)
   |(have h6':(p.k==6)=false:=(by simpa using h6);have HZ1:=hid (HZ.out h6))
  clear HSz HZ h6
  go_enter Tryz.func90,Tryz.ntmps90
  go_wp2_with (go_at_call 40;refine HS1.out.mono ?_;rintro e w1⟨rfl,hb1⟩)
  go_loopw [3,4] (fun a i wr=>∃j:Nat,i= .int .i64 j/\j<=len/\a= .int .i64 ((z+Pr.typs (ps.take j):Nat):Int)/\Below (w.heap.size+1) (w.alloc (Zl p lv av (.slice tla tln tlc) (.slice tka tkn tkc) (.slice pa len c))) wr) (fun _ i _=>len-(intOf i).toNat)
  case atStart=>first|exact⟨0,rfl,by omega,by simp[Pr.typs],by simpa using hb1⟩|exact⟨0,rfl,by omega,by simp[Pr.typs,HZ1.out],bR⟩
  case round=>
   obtain⟨j,rfl,hj,rfl,hb⟩:=hrel
   have c11:wr.cell? ⟨w.heap.size,11,none⟩=some (.slice pa len c):=JB hb 11 rfl
   have hw:=Yc hb
   by_cases hlt:j<len
   ·obtain⟨t,ht⟩:∃t,ps[j]? =some t:=⟨_,List.getElem?_eq_getElem (by rw[<-hlen.out];exact hlt)⟩
    obtain⟨kb,ko,rfl,hkb,hty⟩:=HG.out j t ht
    obtain⟨la',ln',lc',aa',an',ac',ta',tn',tc',ua',un',uc',ka',kn',kc',⟨d0,d1,d2,d3,d4,d5,d6,d7,d8,d9,d10,d11⟩,hval⟩:=(hty.keep (hw.keeps'.mono hB)).load'
    have hsz:=Pr.typs_take ht
    have hle:=Pr.typs_take_le ps (j+1)
    have IH:=hid (HIH.out t (List.mem_of_getElem? ht) _ wr (hB.le hw.size) hval)
    obtain⟨a0,ha0⟩:∃a0,z+Pr.typs (ps.take j)=a0:=⟨_,rfl⟩
    have HA:=hid hsz
    have ha1:a0+t.typ<=1000000000:=by omega
    have HA0:=hid ha0
    rw[ha0]
    unfold QW at IH
    clear hsz ha0 ht hval hty
    go_wp2_with (go_at_call 90;refine IH.out.mono ?_;rintro e w2⟨rfl,hb2⟩)
    go_roundw
    case rel=>exact⟨j+1,by go_num,by omega,YZ (by rw[HA.out];have:=HA0.out;omega),hb.trans (hb2.mono (by have:=hb.size;simpa using this))⟩
    case measure=>simp[intOf];omega
   ·obtain rfl:j=len:=by omega
    go_wp2_with fail
    go_ret
    exact⟨Jh (by rw[List.take_of_length_le (by rw[hlen.out];exact lR),<-HTE.out]),hw⟩
theorem NK(B:Nat->Prop):∀(p:Pr),p.tf->p.typ<=1000000000->∀(v:Value) (w:World),Low B w->PrVal B w v p->Calls Tryz.prog 90 #[v] w fun e w'=>e= .returned (.int .i64 p.typ)/\Below w.heap.size w w':=by
 refine Pr.ind ?_
 intro k c x ls vs t ps ih htf hsz v w hB hv
 obtain⟨lv,av,tl,tk,kv,rfl,_,_,_,hty,hk⟩:=hv
 have h1:Pr.typs ps<=1000000000:=by rw[Pr.typ_eq] at hsz;simp only[Pr.ps] at hsz;omega
 exact Dz B (.mk k c x ls vs t ps) lv av tl tk kv hsz (by have:=Pr.tf_size htf;omega) (fun u hu=>ih u hu (Pr.tf_ps htf u hu) (lT (Pr.typ_mem hu) h1)) w hB hty hk
end Go.Proofs.YtmnbheplkidfaaaGreatDoor
namespace Go.Proofs.YtmnbheplkidfaaaGreatDoor
open Go.RowKit Go.Deep Go.Shelf
def sumN:List Nat->Nat
 |[]=>0
 |x::r=>x+sumN r
theorem JN(l r:List Nat):sumN (l++r)=sumN l+sumN r:=by
 induction l with
 |nil=>simp[sumN]
 |cons x l ih=>simp only[List.cons_append,sumN,ih];omega
theorem YE{l r:List Nat}(h:l <+:r):sumN l<=sumN r:=by
 obtain⟨s,rfl⟩:=h
 rw[JN];omega
def Yg(l:List (Nat×Pr)):List Nat:=l.map fun x=>x.2.adds
theorem Pr.adds_eq(p:Pr):p.adds=1+p.typ0:=by
 unfold Pr.adds Pr.typ0
 by_cases h:p.k=6
 ·rw[if_pos h,if_pos h]
 ·rw[if_neg h,if_neg h]
theorem WC:∀(p:Pr) (d:Nat),sumN (Yg (preP d p))=p.size+p.typ:=by
 refine Pr.ind ?_
 intro k c x ls vs t ps ih d
 have h:∀(l:List Pr) (d:Nat),(∀p∈l,∀d,sumN (Yg (preP d p))=p.size+p.typ)->sumN (Yg (Yo d l))=Pr.sizes l+Pr.typs l:=by
  intro l
  induction l with
  |nil=>intro _ _;simp[Yo,Yg,sumN,Pr.sizes,Pr.typs]
  |cons u r ihl=>
   intro d hh
   have h1:=hh u (by simp) d
   have h2:=ihl d (fun t ht=>hh t (by simp[ht]))
   unfold Yg at h1 h2 |-
   rw[Yo,List.map_append,JN,h1,h2,Pr.sizes,Pr.typs];omega
 have h1:=h ps (d+1) ih
 rw[MD,Pr.size_eq,Pr.typ_eq]
 unfold Yg at h1 |-
 rw[List.map_cons,sumN]
 show(Pr.mk k c x ls vs t ps).adds+sumN (List.map (fun x=>x.2.adds) (Yo (d+1) ps))=_
 rw[h1,Pr.adds_eq]
 simp only[Pr.ps]
 omega
def Df.pms(d:Df):List Nat:=d.ms.map fun a=>a.t.size
def Pg.bodies(g:Pg):List Pr:=g.ds.map (fun d=>d.b)++[g.m]
def JS(l:List Pr):List Nat:=l.flatMap fun p=>Yg (preP 1 p)
def QS(l:List Df):List Nat:=l.flatMap Df.pms
def Pg.cnts(g:Pg):List Nat:=QS g.ds++JS g.bodies
def Pg.total(g:Pg):Nat:=sumN g.cnts
def Df.all(d:Df):Nat:=d.b.size+d.b.typ+sumN d.pms
theorem Pg.total_eq(g:Pg):g.total=g.m.size+g.m.typ+sumN (g.ds.map Df.all):=by
 have h1:∀l:List Pr,sumN (JS l)=sumN (l.map fun p=>p.size+p.typ):=by
  intro l
  induction l with
  |nil=>rfl
  |cons p r ih=>
   unfold JS at ih |-
   rw[List.flatMap_cons,JN,WC,ih,List.map_cons,sumN]
 have h2:∀l:List Df,sumN (QS l)+sumN ((l.map (fun d=>d.b)).map fun p=>p.size+p.typ)=sumN (l.map Df.all):=by
  intro l
  induction l with
  |nil=>rfl
  |cons d r ih=>
   unfold QS at ih |-
   rw[List.flatMap_cons,JN,List.map_cons,List.map_cons,sumN,List.map_cons,sumN,<-ih]
   unfold Df.all
   omega
 unfold Pg.total Pg.cnts Pg.bodies
 have:=h2 g.ds
 rw[JN,h1,List.map_append,JN]
 simp only[List.map_cons,List.map_nil,sumN]
 omega
theorem Un{α β:Type}{l:List α}{j:Nat}{x:α}(f:α->List β)(h:l[j]? =some x):(l.take (j+1)).flatMap f=(l.take j).flatMap f++f x:=by
 rw[Qn h,List.flatMap_append];simp
theorem XJ{α β:Type}(l:List α)(j:Nat)(f:α->List β):(l.take j).flatMap f <+:l.flatMap f:=by
 conv=>rhs;rw[<-List.take_append_drop j l,List.flatMap_append]
 exact List.prefix_append _ _
theorem MZ{α β:Type}{l:List α}{j:Nat}{x:α}(f:α->β)(h:l[j]? =some x):(l.take (j+1)).map f=(l.take j).map f++[f x]:=by
 rw[Qn h,List.map_append];rfl
theorem DT{α β:Type}(l:List α)(j:Nat)(f:α->β):(l.take j).map f <+:l.map f:=by
 conv=>rhs;rw[<-List.take_append_drop j l,List.map_append]
 exact List.prefix_append _ _
theorem PmAt.load'{B:Nat->Prop}{w:World}{a:Pm}{b o:Nat}(h:PmAt B w a b o):
 ∃(la:Option Addr) (ln lc:Nat) (ka:Option Addr) (kn kc:Nat),
  (w.cell? ⟨b,o,none⟩=some (.string a.n)/\w.cell? ⟨b,o+1,none⟩=some (.int .i64 a.t.k)/\w.cell? ⟨b,o+2,none⟩=some (.int .i64 a.t.p)/\w.cell? ⟨b,o+3,none⟩=some (.string a.t.n)/\w.cell? ⟨b,o+4,none⟩=some (.int .i64 a.t.s)/\w.cell? ⟨b,o+5,none⟩=some (.slice la ln lc)/\w.cell? ⟨b,o+6,none⟩=some (.slice ka kn kc))/\
  TyVal B w (.agg #[.int .i64 a.t.k,.int .i64 a.t.p,.string a.t.n,.int .i64 a.t.s,.slice la ln lc,.slice ka kn kc]) a.t:=by
 obtain⟨_,c0,hty⟩:=h
 obtain⟨la,ln,lc,ka,kn,kc,⟨d0,d1,d2,d3,d4,d5⟩,hv⟩:=hty.load'
 exact⟨la,ln,lc,ka,kn,kc,⟨c0,d0,d1,d2,d3,d4,d5⟩,hv⟩
theorem DfAt.load'{B:Nat->Prop}{w:World}{d:Df}{b o:Nat}(h:DfAt B w d b o):
 ∃(ma:Option Addr) (mn mc:Nat) (la:Option Addr) (ln lc:Nat) (aa:Option Addr) (an ac:Nat) (ta:Option Addr) (tn tc:Nat) (ua:Option Addr) (un uc:Nat) (ka:Option Addr) (kn kc:Nat),
  (w.cell? ⟨b,o,none⟩=some (.string d.n)/\w.cell? ⟨b,o+1,none⟩=some (.slice ma mn mc)/\w.cell? ⟨b,o+2,none⟩=some (.int .i64 d.b.k)/\w.cell? ⟨b,o+3,none⟩=some (.string d.b.c)/\w.cell? ⟨b,o+4,none⟩=some (.string d.b.x)/\
   w.cell? ⟨b,o+5,none⟩=some (.slice la ln lc)/\w.cell? ⟨b,o+6,none⟩=some (.slice aa an ac)/\
   w.cell? ⟨b,o+7,none⟩=some (.int .i64 d.b.t.k)/\w.cell? ⟨b,o+8,none⟩=some (.int .i64 d.b.t.p)/\w.cell? ⟨b,o+9,none⟩=some (.string d.b.t.n)/\w.cell? ⟨b,o+10,none⟩=some (.int .i64 d.b.t.s)/\
   w.cell? ⟨b,o+11,none⟩=some (.slice ta tn tc)/\w.cell? ⟨b,o+12,none⟩=some (.slice ua un uc)/\w.cell? ⟨b,o+13,none⟩=some (.slice ka kn kc))/\
  PmSl B w (.slice ma mn mc) d.ms/\PrVal B w (QW d.b (.slice la ln lc) (.slice aa an ac) (.slice ta tn tc) (.slice ua un uc) (.slice ka kn kc)) d.b:=by
 obtain⟨_,c0,⟨mv,c1,hm⟩,hp⟩:=h
 obtain⟨ma,mn,mc,rfl,_⟩:=hm.open
 obtain⟨la,ln,lc,aa,an,ac,ta,tn,tc,ua,un,uc,ka,kn,kc,⟨d0,d1,d2,d3,d4,d5,d6,d7,d8,d9,d10,d11⟩,hv⟩:=hp.load'
 exact⟨ma,mn,mc,la,ln,lc,aa,an,ac,ta,tn,tc,ua,un,uc,ka,kn,kc,⟨c0,c1,d0,d1,d2,d3,d4,d5,d6,d7,d8,d9,d10,d11⟩,hm,hv⟩
def PGood(p:Pr):Prop:=p.fine/\p.tf
theorem PGood.ps{p:Pr}(h:PGood p):∀u∈p.ps,PGood u:=fun u hu=>⟨Pr.fine_ps h.1 u hu,Pr.tf_ps h.2 u hu⟩
def GGood(g:Pg):Prop:=g.ds.length<=100000/\(∀d∈g.ds,∀a∈d.ms,a.t.fine/\(a.t.size<=100000/\a.t.depth<=100000))/\∀p∈g.bodies,PGood p/\p.depth<=90000/\p.size<=1000000
theorem GGood.pm{g:Pg}(h:GGood g){d:Df}(hd:d∈g.ds){a:Pm}(ha:a∈d.ms):a.t.size<=100000/\a.t.depth<=100000:=(h.2.1 d hd a ha).2
theorem Pg.body_mem{g:Pg}{d:Df}(hd:d∈g.ds):d.b∈g.bodies:=by unfold Pg.bodies;simp only[List.mem_append,List.mem_map];exact .inl ⟨d,hd,rfl⟩
theorem Pg.main_mem(g:Pg):g.m∈g.bodies:=by unfold Pg.bodies;simp
end Go.Proofs.YtmnbheplkidfaaaGreatDoor
namespace Go.Proofs.YtmnbheplkidfaaaGreatDoor
open Go.Lib (hid)
open Go.RowKit Go.Deep Go.Shelf
def Kg(f:Nat)(caps:Array Value)(B:Nat->Prop)(w:World)(ts:List Ty)(pf:Ty->Bool):Prop:=∀t∈ts,∀(v:Value) (W:World),Below w.heap.size w W->TyVal B W v t->Calls Tryz.prog f (#[v]++caps) W fun e w'=>e= .returned (.bool (pf t))/\Below W.heap.size W w'
theorem Na(B:Nat->Prop)(ts:List Ty)(pf:Ty->Bool)(f:Nat)(caps:Array Value)(eg:∀args w,(callFunc f args).run Tryz.prog w= .ok (.enter f args) w)(kv:Value)(w:World)(hB:Low B w)(hk:TySl B w kv ts)(hf:Kg f caps B w ts pf):
 Calls Tryz.prog 124 #[kv,.func (.func f) #[] caps] w fun e w'=>∃r:Int,e= .returned (.int .i64 r)/\((0<=r/\ts.any pf=true)\/(r= -1/\ts.any pf=false))/\Below w.heap.size w w':=by
 obtain⟨pa,len,c,rfl,hlen,hmx,hget⟩:=hk.open
 have HG:Hid (∀j t,ts[j]? =some t->∃kb ko,pa=some ⟨kb,ko,none⟩/\∃v:Value,∃cs:List Value,v= .agg cs.toArray/\cs.length=6/\(∀W,Below w.heap.size w W->(∀i (z:Value),cs[i]? =some z->W.cell? ⟨kb,ko+j*6+i,none⟩=some z)/\TyVal B W v t)):=hid (fun j t hj=>by
  obtain⟨kb,ko,e,hkb,hty⟩:=hget j t hj
  have hkl:=hB kb hkb
  obtain⟨la,ln,lc,ka,kn,kc,⟨d0,d1,d2,d3,d4,d5⟩,hval⟩:=hty.load'
  have hvv:=hval
  refine⟨kb,ko,e,.agg (cT t la ln lc ka kn kc),[.int .i64 t.k,.int .i64 t.p,.string t.n,.int .i64 t.s,.slice la ln lc,.slice ka kn kc],rfl,rfl,fun W hW=>⟨fun i z hz=>?_,lyTy.keep (hW.keeps'.mono hB) hvv⟩⟩
  match i,hz with
  |0,hz=>obtain rfl:=Option.some.inj hz;exact(hW.cell (p:=⟨kb,_,none⟩) hkl).trans d0
  |1,hz=>obtain rfl:=Option.some.inj hz;exact(hW.cell (p:=⟨kb,_,none⟩) hkl).trans d1
  |2,hz=>obtain rfl:=Option.some.inj hz;exact(hW.cell (p:=⟨kb,_,none⟩) hkl).trans d2
  |3,hz=>obtain rfl:=Option.some.inj hz;exact(hW.cell (p:=⟨kb,_,none⟩) hkl).trans d3
  |4,hz=>obtain rfl:=Option.some.inj hz;exact(hW.cell (p:=⟨kb,_,none⟩) hkl).trans d4
  |5,hz=>obtain rfl:=Option.some.inj hz;exact(hW.cell (p:=⟨kb,_,none⟩) hkl).trans d5
  |i+6,hz=>simp at hz)
 have HF:=hid hf
 have HL:Hid (len=ts.length):=hid hlen.out
 clear hget hf hk hlen
 go_enter Tryz.func124,Tryz.ntmps124
 go_wp2_with fail
 go_loopw [8] (fun i wr=>∃j:Nat,i= .int .i64 j/\j<=len/\Hid ((ts.take j).any pf=false)/\Hid (Below w.heap.size w wr)) (fun i _=>len-(intOf i).toNat)
 case atStart=>exact⟨0,rfl,Nat.zero_le _,hid (by simp),hid bR⟩
 case round=>
  obtain⟨j,rfl,hj,HA,HBW⟩:=hrel
  by_cases hlt:j<len
  ·obtain⟨t,ht⟩:∃t,ts[j]? =some t:=⟨_,List.getElem?_eq_getElem (by rw[<-HL.out];exact hlt)⟩
   obtain⟨kb,ko,rfl,v,cs,rfl,hcs,hW⟩:=HG.out j t ht
   obtain⟨hc,hv⟩:=hW wr HBW.out
   obtain⟨x0,x1,x2,x3,x4,x5,rfl⟩:∃x0 x1 x2 x3 x4 x5,cs=[x0,x1,x2,x3,x4,x5]:=by
    match cs,hcs with
    |[x0,x1,x2,x3,x4,x5],_=>exact⟨_,_,_,_,_,_,rfl⟩
   have d0:=hc 0 _ rfl
   have d1:=hc 1 _ rfl
   have d2:=hc 2 _ rfl
   have d3:=hc 3 _ rfl
   have d4:=hc 4 _ rfl
   have d5:=hc 5 _ rfl
   rw[Nat.add_zero] at d0
   have HC:=hid (HF.out t (List.mem_of_getElem? ht) _ wr HBW.out hv)
   have HT:=hid ht
   clear hW hc hv hcs ht
   cases hp:pf t with
   |true=>
    rw[hp] at HC
    go_wp2_with fail
    refine HC.out.mono ?_
    rintro e w2⟨rfl,hb2⟩
    go_wp2_with fail
    go_ret
    refine⟨_,rfl,.inl ⟨by omega,List.any_eq_true.2 ⟨t,List.mem_of_getElem? HT.out,hp⟩⟩,Qf HBW.out hb2⟩
   |false=>
    rw[hp] at HC
    have HPF:=hid hp
    clear hp
    go_wp2_with fail
    refine HC.out.mono ?_
    rintro e w2⟨rfl,hb2⟩
    have HB2:=hid hb2
    clear hb2
    go_wp2_with fail
    go_roundw
    case rel=>exact⟨j+1,by go_num,by omega,hid (by rw[Qn HT.out,List.any_append,HA.out];simp[HPF.out]),hid (Qf HBW.out HB2.out)⟩
    case measure=>simp[intOf];omega
  ·obtain rfl:j=len:=by omega
   go_wp2_with fail
   go_ret
   have h:=HA.out
   rw[List.take_of_length_le (by rw[HL.out];exact lR)] at h
   exact⟨_,rfl,.inr ⟨rfl,h⟩,HBW.out⟩
theorem Us(B:Nat->Prop)(ts:List Ty)(pf:Ty->Bool)(f:Nat)(caps:Array Value)(eg:∀args w,(callFunc f args).run Tryz.prog w= .ok (.enter f args) w)(kv:Value)(w:World)(hB:Low B w)(hk:TySl B w kv ts)(hf:Kg f caps B w ts pf):
 Calls Tryz.prog 97 #[kv,.func (.func f) #[] caps] w fun e w'=>e= .returned (.bool (ts.any pf))/\Below w.heap.size w w':=by
 have HI:=hid (Na B ts pf f caps eg kv w hB hk hf)
 clear hf hk hB
 cases hany:ts.any pf with
 |true=>
  go_enter Tryz.func97,Tryz.ntmps97
  go_wp2_with (go_at_call 124;refine HI.out.mono ?_;rw[hany];rintro e w1⟨r,rfl,h,hb⟩;have HB:=hid hb;have hr:0<=r:=(h.elim (fun h=>h.1) (fun h=>absurd h.2 (by decide)));have hd:decide (0<=r)=true:=decide_eq_true hr;clear hb h)
  go_ret
  exact⟨rfl,HB.out⟩
 |false=>
  go_enter Tryz.func97,Tryz.ntmps97
  go_wp2_with (go_at_call 124;refine HI.out.mono ?_;rw[hany];rintro e w1⟨r,rfl,h,hb⟩;have HB:=hid hb;obtain rfl:r= -1:=(h.elim (fun h=>absurd h.2 (by decide)) (fun h=>h.1));clear hb h)
  go_ret
  exact⟨rfl,HB.out⟩
def Kh(f:Nat)(caps:Array Value)(B:Nat->Prop)(w:World)(ts:List Pr)(pf:Pr->Bool):Prop:=∀t∈ts,∀(v:Value) (W:World),Below w.heap.size w W->PrVal B W v t->Calls Tryz.prog f (#[v]++caps) W fun e w'=>e= .returned (.bool (pf t))/\Below W.heap.size W w'
theorem Nb(B:Nat->Prop)(ts:List Pr)(pf:Pr->Bool)(f:Nat)(caps:Array Value)(eg:∀args w,(callFunc f args).run Tryz.prog w= .ok (.enter f args) w)(kv:Value)(w:World)(hB:Low B w)(hk:PrSl B w kv ts)(hf:Kh f caps B w ts pf):
 Calls Tryz.prog 111 #[kv,.func (.func f) #[] caps] w fun e w'=>∃r:Int,e= .returned (.int .i64 r)/\((0<=r/\ts.any pf=true)\/(r= -1/\ts.any pf=false))/\Below w.heap.size w w':=by
 obtain⟨pa,len,c,rfl,hlen,hmx,hget⟩:=hk.open
 have HG:Hid (∀j t,ts[j]? =some t->∃kb ko,pa=some ⟨kb,ko,none⟩/\∃v:Value,∃cs:List Value,v= .agg cs.toArray/\cs.length=12/\(∀W,Below w.heap.size w W->(∀i (z:Value),cs[i]? =some z->W.cell? ⟨kb,ko+j*12+i,none⟩=some z)/\PrVal B W v t)):=hid (fun j t hj=>by
  obtain⟨kb,ko,e,hkb,hty⟩:=hget j t hj
  have hkl:=hB kb hkb
  obtain⟨la,ln,lc,aa,an,ac,ta,tn,tc,ua,un,uc,ka,kn,kc,⟨d0,d1,d2,d3,d4,d5,d6,d7,d8,d9,d10,d11⟩,hval⟩:=hty.load'
  have hvv:=hval
  refine⟨kb,ko,e,.agg (gP t la ln lc aa an ac ta tn tc ua un uc ka kn kc),[.int .i64 t.k,.string t.c,.string t.x,.slice la ln lc,.slice aa an ac,.int .i64 t.t.k,.int .i64 t.t.p,.string t.t.n,.int .i64 t.t.s,.slice ta tn tc,.slice ua un uc,.slice ka kn kc],rfl,rfl,fun W hW=>⟨fun i z hz=>?_,lyPr.keep (hW.keeps'.mono hB) hvv⟩⟩
  match i,hz with
  |0,hz=>obtain rfl:=Option.some.inj hz;exact(hW.cell (p:=⟨kb,_,none⟩) hkl).trans d0
  |1,hz=>obtain rfl:=Option.some.inj hz;exact(hW.cell (p:=⟨kb,_,none⟩) hkl).trans d1
  |2,hz=>obtain rfl:=Option.some.inj hz;exact(hW.cell (p:=⟨kb,_,none⟩) hkl).trans d2
  |3,hz=>obtain rfl:=Option.some.inj hz;exact(hW.cell (p:=⟨kb,_,none⟩) hkl).trans d3
  |4,hz=>obtain rfl:=Option.some.inj hz;exact(hW.cell (p:=⟨kb,_,none⟩) hkl).trans d4
  |5,hz=>obtain rfl:=Option.some.inj hz;exact(hW.cell (p:=⟨kb,_,none⟩) hkl).trans d5
  |6,hz=>obtain rfl:=Option.some.inj hz;exact(hW.cell (p:=⟨kb,_,none⟩) hkl).trans d6
  |7,hz=>obtain rfl:=Option.some.inj hz;exact(hW.cell (p:=⟨kb,_,none⟩) hkl).trans d7
  |8,hz=>obtain rfl:=Option.some.inj hz;exact(hW.cell (p:=⟨kb,_,none⟩) hkl).trans d8
  |9,hz=>obtain rfl:=Option.some.inj hz;exact(hW.cell (p:=⟨kb,_,none⟩) hkl).trans d9
  |10,hz=>obtain rfl:=Option.some.inj hz;exact(hW.cell (p:=⟨kb,_,none⟩) hkl).trans d10
  |11,hz=>obtain rfl:=Option.some.inj hz;exact(hW.cell (p:=⟨kb,_,none⟩) hkl).trans d11
  |i+12,hz=>simp at hz)
 have HF:=hid hf
 have HL:Hid (len=ts.length):=hid hlen.out
 clear hget hf hk hlen
 go_enter Tryz.func111,Tryz.ntmps111
 go_wp2_with fail
 go_loopw [8] (fun i wr=>∃j:Nat,i= .int .i64 j/\j<=len/\Hid ((ts.take j).any pf=false)/\Hid (Below w.heap.size w wr)) (fun i _=>len-(intOf i).toNat)
 case atStart=>exact⟨0,rfl,Nat.zero_le _,hid (by simp),hid bR⟩
 case round=>
  obtain⟨j,rfl,hj,HA,HBW⟩:=hrel
  by_cases hlt:j<len
  ·obtain⟨t,ht⟩:∃t,ts[j]? =some t:=⟨_,List.getElem?_eq_getElem (by rw[<-HL.out];exact hlt)⟩
   obtain⟨kb,ko,rfl,v,cs,rfl,hcs,hW⟩:=HG.out j t ht
   obtain⟨hc,hv⟩:=hW wr HBW.out
   obtain⟨x0,x1,x2,x3,x4,x5,x6,x7,x8,x9,x10,x11,rfl⟩:∃x0 x1 x2 x3 x4 x5 x6 x7 x8 x9 x10 x11,cs=[x0,x1,x2,x3,x4,x5,x6,x7,x8,x9,x10,x11]:=by
    match cs,hcs with
    |[x0,x1,x2,x3,x4,x5,x6,x7,x8,x9,x10,x11],_=>exact⟨_,_,_,_,_,_,_,_,_,_,_,_,rfl⟩
   have d0:=hc 0 _ rfl
   have d1:=hc 1 _ rfl
   have d2:=hc 2 _ rfl
   have d3:=hc 3 _ rfl
   have d4:=hc 4 _ rfl
   have d5:=hc 5 _ rfl
   have d6:=hc 6 _ rfl
   have d7:=hc 7 _ rfl
   have d8:=hc 8 _ rfl
   have d9:=hc 9 _ rfl
   have d10:=hc 10 _ rfl
   have d11:=hc 11 _ rfl
   rw[Nat.add_zero] at d0
   have HC:=hid (HF.out t (List.mem_of_getElem? ht) _ wr HBW.out hv)
   have HT:=hid ht
   clear hW hc hv hcs ht
   cases hp:pf t with
   |true=>
    rw[hp] at HC
    go_wp2_with fail
    refine HC.out.mono ?_
    rintro e w2⟨rfl,hb2⟩
    go_wp2_with fail
    go_ret
    refine⟨_,rfl,.inl ⟨by omega,List.any_eq_true.2 ⟨t,List.mem_of_getElem? HT.out,hp⟩⟩,Qf HBW.out hb2⟩
   |false=>
    rw[hp] at HC
    have HPF:=hid hp
    clear hp
    go_wp2_with fail
    refine HC.out.mono ?_
    rintro e w2⟨rfl,hb2⟩
    have HB2:=hid hb2
    clear hb2
    go_wp2_with fail
    go_roundw
    case rel=>exact⟨j+1,by go_num,by omega,hid (by rw[Qn HT.out,List.any_append,HA.out];simp[HPF.out]),hid (Qf HBW.out HB2.out)⟩
    case measure=>simp[intOf];omega
  ·obtain rfl:j=len:=by omega
   go_wp2_with fail
   go_ret
   have h:=HA.out
   rw[List.take_of_length_le (by rw[HL.out];exact lR)] at h
   exact⟨_,rfl,.inr ⟨rfl,h⟩,HBW.out⟩
theorem Ut(B:Nat->Prop)(ts:List Pr)(pf:Pr->Bool)(f:Nat)(caps:Array Value)(eg:∀args w,(callFunc f args).run Tryz.prog w= .ok (.enter f args) w)(kv:Value)(w:World)(hB:Low B w)(hk:PrSl B w kv ts)(hf:Kh f caps B w ts pf):
 Calls Tryz.prog 84 #[kv,.func (.func f) #[] caps] w fun e w'=>e= .returned (.bool (ts.any pf))/\Below w.heap.size w w':=by
 have HI:=hid (Nb B ts pf f caps eg kv w hB hk hf)
 clear hf hk hB
 cases hany:ts.any pf with
 |true=>
  go_enter Tryz.func84,Tryz.ntmps84
  go_wp2_with (go_at_call 111;refine HI.out.mono ?_;rw[hany];rintro e w1⟨r,rfl,h,hb⟩;have HB:=hid hb;have hr:0<=r:=(h.elim (fun h=>h.1) (fun h=>absurd h.2 (by decide)));have hd:decide (0<=r)=true:=decide_eq_true hr;clear hb h)
  go_ret
  exact⟨rfl,HB.out⟩
 |false=>
  go_enter Tryz.func84,Tryz.ntmps84
  go_wp2_with (go_at_call 111;refine HI.out.mono ?_;rw[hany];rintro e w1⟨r,rfl,h,hb⟩;have HB:=hid hb;obtain rfl:r= -1:=(h.elim (fun h=>absurd h.2 (by decide)) (fun h=>h.1));clear hb h)
  go_ret
  exact⟨rfl,HB.out⟩
def Mw(f:Nat)(caps:Array Value)(B:Nat->Prop)(w:World)(ts:List Pm)(pf:Pm->Bool):Prop:=∀t∈ts,∀(v:Value) (W:World),Below w.heap.size w W->PmVal B W v t->Calls Tryz.prog f (#[v]++caps) W fun e w'=>e= .returned (.bool (pf t))/\Below W.heap.size W w'
theorem KL(B:Nat->Prop)(ts:List Pm)(pf:Pm->Bool)(f:Nat)(caps:Array Value)(eg:∀args w,(callFunc f args).run Tryz.prog w= .ok (.enter f args) w)(kv:Value)(w:World)(hB:Low B w)(hk:PmSl B w kv ts)(hf:Mw f caps B w ts pf):
 Calls Tryz.prog 110 #[kv,.func (.func f) #[] caps] w fun e w'=>∃r:Int,e= .returned (.int .i64 r)/\((0<=r/\ts.any pf=true)\/(r= -1/\ts.any pf=false))/\Below w.heap.size w w':=by
 obtain⟨pa,len,c,rfl,hlen,hmx,hget⟩:=hk.open
 have HG:Hid (∀j t,ts[j]? =some t->∃kb ko,pa=some ⟨kb,ko,none⟩/\∃v:Value,∃cs:List Value,v= .agg cs.toArray/\cs.length=7/\(∀W,Below w.heap.size w W->(∀i (z:Value),cs[i]? =some z->W.cell? ⟨kb,ko+j*7+i,none⟩=some z)/\PmVal B W v t)):=hid (fun j t hj=>by
  obtain⟨kb,ko,e,hkb,hty⟩:=hget j t hj
  have hkl:=hB kb hkb
  obtain⟨la,ln,lc,ka,kn,kc,⟨d0,d1,d2,d3,d4,d5,d6⟩,hvt⟩:=hty.load'
  have hvv:=(show PmVal B w _ t from⟨_,_,rfl,hty.1,hvt⟩)
  refine⟨kb,ko,e,.agg #[.string t.n,.int .i64 t.t.k,.int .i64 t.t.p,.string t.t.n,.int .i64 t.t.s,.slice la ln lc,.slice ka kn kc],[.string t.n,.int .i64 t.t.k,.int .i64 t.t.p,.string t.t.n,.int .i64 t.t.s,.slice la ln lc,.slice ka kn kc],rfl,rfl,fun W hW=>⟨fun i z hz=>?_,lyPm.keep (hW.keeps'.mono hB) hvv⟩⟩
  match i,hz with
  |0,hz=>obtain rfl:=Option.some.inj hz;exact(hW.cell (p:=⟨kb,_,none⟩) hkl).trans d0
  |1,hz=>obtain rfl:=Option.some.inj hz;exact(hW.cell (p:=⟨kb,_,none⟩) hkl).trans d1
  |2,hz=>obtain rfl:=Option.some.inj hz;exact(hW.cell (p:=⟨kb,_,none⟩) hkl).trans d2
  |3,hz=>obtain rfl:=Option.some.inj hz;exact(hW.cell (p:=⟨kb,_,none⟩) hkl).trans d3
  |4,hz=>obtain rfl:=Option.some.inj hz;exact(hW.cell (p:=⟨kb,_,none⟩) hkl).trans d4
  |5,hz=>obtain rfl:=Option.some.inj hz;exact(hW.cell (p:=⟨kb,_,none⟩) hkl).trans d5
  |6,hz=>obtain rfl:=Option.some.inj hz;exact(hW.cell (p:=⟨kb,_,none⟩) hkl).trans d6
  |i+7,hz=>simp at hz)
 have HF:=hid hf
 have HL:Hid (len=ts.length):=hid hlen.out
 clear hget hf hk hlen
 go_enter Tryz.func110,Tryz.ntmps110
 go_wp2_with fail
 go_loopw [8] (fun i wr=>∃j:Nat,i= .int .i64 j/\j<=len/\Hid ((ts.take j).any pf=false)/\Hid (Below w.heap.size w wr)) (fun i _=>len-(intOf i).toNat)
 case atStart=>exact⟨0,rfl,Nat.zero_le _,hid (by simp),hid bR⟩
 case round=>
  obtain⟨j,rfl,hj,HA,HBW⟩:=hrel
  by_cases hlt:j<len
  ·obtain⟨t,ht⟩:∃t,ts[j]? =some t:=⟨_,List.getElem?_eq_getElem (by rw[<-HL.out];exact hlt)⟩
   obtain⟨kb,ko,rfl,v,cs,rfl,hcs,hW⟩:=HG.out j t ht
   obtain⟨hc,hv⟩:=hW wr HBW.out
   obtain⟨x0,x1,x2,x3,x4,x5,x6,rfl⟩:∃x0 x1 x2 x3 x4 x5 x6,cs=[x0,x1,x2,x3,x4,x5,x6]:=by
    match cs,hcs with
    |[x0,x1,x2,x3,x4,x5,x6],_=>exact⟨_,_,_,_,_,_,_,rfl⟩
   have d0:=hc 0 _ rfl
   have d1:=hc 1 _ rfl
   have d2:=hc 2 _ rfl
   have d3:=hc 3 _ rfl
   have d4:=hc 4 _ rfl
   have d5:=hc 5 _ rfl
   have d6:=hc 6 _ rfl
   rw[Nat.add_zero] at d0
   have HC:=hid (HF.out t (List.mem_of_getElem? ht) _ wr HBW.out hv)
   have HT:=hid ht
   clear hW hc hv hcs ht
   cases hp:pf t with
   |true=>
    rw[hp] at HC
    go_wp2_with fail
    refine HC.out.mono ?_
    rintro e w2⟨rfl,hb2⟩
    go_wp2_with fail
    go_ret
    refine⟨_,rfl,.inl ⟨by omega,List.any_eq_true.2 ⟨t,List.mem_of_getElem? HT.out,hp⟩⟩,Qf HBW.out hb2⟩
   |false=>
    rw[hp] at HC
    have HPF:=hid hp
    clear hp
    go_wp2_with fail
    refine HC.out.mono ?_
    rintro e w2⟨rfl,hb2⟩
    have HB2:=hid hb2
    clear hb2
    go_wp2_with fail
    go_roundw
    case rel=>exact⟨j+1,by go_num,by omega,hid (by rw[Qn HT.out,List.any_append,HA.out];simp[HPF.out]),hid (Qf HBW.out HB2.out)⟩
    case measure=>simp[intOf];omega
  ·obtain rfl:j=len:=by omega
   go_wp2_with fail
   go_ret
   have h:=HA.out
   rw[List.take_of_length_le (by rw[HL.out];exact lR)] at h
   exact⟨_,rfl,.inr ⟨rfl,h⟩,HBW.out⟩
theorem Uc(B:Nat->Prop)(ts:List Pm)(pf:Pm->Bool)(f:Nat)(caps:Array Value)(eg:∀args w,(callFunc f args).run Tryz.prog w= .ok (.enter f args) w)(kv:Value)(w:World)(hB:Low B w)(hk:PmSl B w kv ts)(hf:Mw f caps B w ts pf):
 Calls Tryz.prog 82 #[kv,.func (.func f) #[] caps] w fun e w'=>e= .returned (.bool (ts.any pf))/\Below w.heap.size w w':=by
 have HI:=hid (KL B ts pf f caps eg kv w hB hk hf)
 clear hf hk hB
 cases hany:ts.any pf with
 |true=>
  go_enter Tryz.func82,Tryz.ntmps82
  go_wp2_with (go_at_call 110;refine HI.out.mono ?_;rw[hany];rintro e w1⟨r,rfl,h,hb⟩;have HB:=hid hb;have hr:0<=r:=(h.elim (fun h=>h.1) (fun h=>absurd h.2 (by decide)));have hd:decide (0<=r)=true:=decide_eq_true hr;clear hb h)
  go_ret
  exact⟨rfl,HB.out⟩
 |false=>
  go_enter Tryz.func82,Tryz.ntmps82
  go_wp2_with (go_at_call 110;refine HI.out.mono ?_;rw[hany];rintro e w1⟨r,rfl,h,hb⟩;have HB:=hid hb;obtain rfl:r= -1:=(h.elim (fun h=>absurd h.2 (by decide)) (fun h=>h.1));clear hb h)
  go_ret
  exact⟨rfl,HB.out⟩
def FI(f:Nat)(caps:Array Value)(B:Nat->Prop)(w:World)(ts:List Df)(pf:Df->Bool):Prop:=∀t∈ts,∀(v:Value) (W:World),Below w.heap.size w W->DfVal B W v t->Calls Tryz.prog f (#[v]++caps) W fun e w'=>e= .returned (.bool (pf t))/\Below W.heap.size W w'
theorem Hq(B:Nat->Prop)(ts:List Df)(pf:Df->Bool)(f:Nat)(caps:Array Value)(eg:∀args w,(callFunc f args).run Tryz.prog w= .ok (.enter f args) w)(kv:Value)(w:World)(hB:Low B w)(hk:DfSl B w kv ts)(hf:FI f caps B w ts pf):
 Calls Tryz.prog 81 #[kv,.func (.func f) #[] caps] w fun e w'=>∃r:Int,e= .returned (.int .i64 r)/\((0<=r/\ts.any pf=true)\/(r= -1/\ts.any pf=false))/\Below w.heap.size w w':=by
 obtain⟨pa,len,c,rfl,hlen,hmx,hget⟩:=hk.open
 have HG:Hid (∀j t,ts[j]? =some t->∃kb ko,pa=some ⟨kb,ko,none⟩/\∃v:Value,∃cs:List Value,v= .agg cs.toArray/\cs.length=14/\(∀W,Below w.heap.size w W->(∀i (z:Value),cs[i]? =some z->W.cell? ⟨kb,ko+j*14+i,none⟩=some z)/\DfVal B W v t)):=hid (fun j t hj=>by
  obtain⟨kb,ko,e,hkb,hty⟩:=hget j t hj
  have hkl:=hB kb hkb
  obtain⟨ma,mn,mc,la,ln,lc,aa,an,ac,ta,tn,tc,ua,un,uc,ka,kn,kc,⟨d0,d1,d2,d3,d4,d5,d6,d7,d8,d9,d10,d11,d12,d13⟩,hvm,hvt⟩:=hty.load'
  have hvv:=(show DfVal B w _ t from⟨_,_,_,_,_,_,rfl,hty.1,hvm,hvt⟩)
  refine⟨kb,ko,e,.agg #[.string t.n,.slice ma mn mc,.int .i64 t.b.k,.string t.b.c,.string t.b.x,.slice la ln lc,.slice aa an ac,.int .i64 t.b.t.k,.int .i64 t.b.t.p,.string t.b.t.n,.int .i64 t.b.t.s,.slice ta tn tc,.slice ua un uc,.slice ka kn kc],[.string t.n,.slice ma mn mc,.int .i64 t.b.k,.string t.b.c,.string t.b.x,.slice la ln lc,.slice aa an ac,.int .i64 t.b.t.k,.int .i64 t.b.t.p,.string t.b.t.n,.int .i64 t.b.t.s,.slice ta tn tc,.slice ua un uc,.slice ka kn kc],rfl,rfl,fun W hW=>⟨fun i z hz=>?_,lyDf.keep (hW.keeps'.mono hB) hvv⟩⟩
  match i,hz with
  |0,hz=>obtain rfl:=Option.some.inj hz;exact(hW.cell (p:=⟨kb,_,none⟩) hkl).trans d0
  |1,hz=>obtain rfl:=Option.some.inj hz;exact(hW.cell (p:=⟨kb,_,none⟩) hkl).trans d1
  |2,hz=>obtain rfl:=Option.some.inj hz;exact(hW.cell (p:=⟨kb,_,none⟩) hkl).trans d2
  |3,hz=>obtain rfl:=Option.some.inj hz;exact(hW.cell (p:=⟨kb,_,none⟩) hkl).trans d3
  |4,hz=>obtain rfl:=Option.some.inj hz;exact(hW.cell (p:=⟨kb,_,none⟩) hkl).trans d4
  |5,hz=>obtain rfl:=Option.some.inj hz;exact(hW.cell (p:=⟨kb,_,none⟩) hkl).trans d5
  |6,hz=>obtain rfl:=Option.some.inj hz;exact(hW.cell (p:=⟨kb,_,none⟩) hkl).trans d6
  |7,hz=>obtain rfl:=Option.some.inj hz;exact(hW.cell (p:=⟨kb,_,none⟩) hkl).trans d7
  |8,hz=>obtain rfl:=Option.some.inj hz;exact(hW.cell (p:=⟨kb,_,none⟩) hkl).trans d8
  |9,hz=>obtain rfl:=Option.some.inj hz;exact(hW.cell (p:=⟨kb,_,none⟩) hkl).trans d9
  |10,hz=>obtain rfl:=Option.some.inj hz;exact(hW.cell (p:=⟨kb,_,none⟩) hkl).trans d10
  |11,hz=>obtain rfl:=Option.some.inj hz;exact(hW.cell (p:=⟨kb,_,none⟩) hkl).trans d11
  |12,hz=>obtain rfl:=Option.some.inj hz;exact(hW.cell (p:=⟨kb,_,none⟩) hkl).trans d12
  |13,hz=>obtain rfl:=Option.some.inj hz;exact(hW.cell (p:=⟨kb,_,none⟩) hkl).trans d13
  |i+14,hz=>simp at hz)
 have HF:=hid hf
 have HL:Hid (len=ts.length):=hid hlen.out
 clear hget hf hk hlen
 go_enter Tryz.func81,Tryz.ntmps81
 go_wp2_with fail
 go_loopw [8] (fun i wr=>∃j:Nat,i= .int .i64 j/\j<=len/\Hid ((ts.take j).any pf=false)/\Hid (Below w.heap.size w wr)) (fun i _=>len-(intOf i).toNat)
 case atStart=>exact⟨0,rfl,Nat.zero_le _,hid (by simp),hid bR⟩
 case round=>
  obtain⟨j,rfl,hj,HA,HBW⟩:=hrel
  by_cases hlt:j<len
  ·obtain⟨t,ht⟩:∃t,ts[j]? =some t:=⟨_,List.getElem?_eq_getElem (by rw[<-HL.out];exact hlt)⟩
   obtain⟨kb,ko,rfl,v,cs,rfl,hcs,hW⟩:=HG.out j t ht
   obtain⟨hc,hv⟩:=hW wr HBW.out
   obtain⟨x0,x1,x2,x3,x4,x5,x6,x7,x8,x9,x10,x11,x12,x13,rfl⟩:∃x0 x1 x2 x3 x4 x5 x6 x7 x8 x9 x10 x11 x12 x13,cs=[x0,x1,x2,x3,x4,x5,x6,x7,x8,x9,x10,x11,x12,x13]:=by
    match cs,hcs with
    |[x0,x1,x2,x3,x4,x5,x6,x7,x8,x9,x10,x11,x12,x13],_=>exact⟨_,_,_,_,_,_,_,_,_,_,_,_,_,_,rfl⟩
   have d0:=hc 0 _ rfl
   have d1:=hc 1 _ rfl
   have d2:=hc 2 _ rfl
   have d3:=hc 3 _ rfl
   have d4:=hc 4 _ rfl
   have d5:=hc 5 _ rfl
   have d6:=hc 6 _ rfl
   have d7:=hc 7 _ rfl
   have d8:=hc 8 _ rfl
   have d9:=hc 9 _ rfl
   have d10:=hc 10 _ rfl
   have d11:=hc 11 _ rfl
   have d12:=hc 12 _ rfl
   have d13:=hc 13 _ rfl
   rw[Nat.add_zero] at d0
   have HC:=hid (HF.out t (List.mem_of_getElem? ht) _ wr HBW.out hv)
   have HT:=hid ht
   clear hW hc hv hcs ht
   cases hp:pf t with
   |true=>
    rw[hp] at HC
    go_wp2_with fail
    refine HC.out.mono ?_
    rintro e w2⟨rfl,hb2⟩
    go_wp2_with fail
    go_ret
    refine⟨_,rfl,.inl ⟨by omega,List.any_eq_true.2 ⟨t,List.mem_of_getElem? HT.out,hp⟩⟩,Qf HBW.out hb2⟩
   |false=>
    rw[hp] at HC
    have HPF:=hid hp
    clear hp
    go_wp2_with fail
    refine HC.out.mono ?_
    rintro e w2⟨rfl,hb2⟩
    have HB2:=hid hb2
    clear hb2
    go_wp2_with fail
    go_roundw
    case rel=>exact⟨j+1,by go_num,by omega,hid (by rw[Qn HT.out,List.any_append,HA.out];simp[HPF.out]),hid (Qf HBW.out HB2.out)⟩
    case measure=>simp[intOf];omega
  ·obtain rfl:j=len:=by omega
   go_wp2_with fail
   go_ret
   have h:=HA.out
   rw[List.take_of_length_le (by rw[HL.out];exact lR)] at h
   exact⟨_,rfl,.inr ⟨rfl,h⟩,HBW.out⟩
theorem KA(B:Nat->Prop)(ts:List Df)(pf:Df->Bool)(f:Nat)(caps:Array Value)(eg:∀args w,(callFunc f args).run Tryz.prog w= .ok (.enter f args) w)(kv:Value)(w:World)(hB:Low B w)(hk:DfSl B w kv ts)(hf:FI f caps B w ts pf):
 Calls Tryz.prog 54 #[kv,.func (.func f) #[] caps] w fun e w'=>e= .returned (.bool (ts.any pf))/\Below w.heap.size w w':=by
 have HI:=hid (Hq B ts pf f caps eg kv w hB hk hf)
 clear hf hk hB
 cases hany:ts.any pf with
 |true=>
  go_enter Tryz.func54,Tryz.ntmps54
  go_wp2_with (go_at_call 81;refine HI.out.mono ?_;rw[hany];rintro e w1⟨r,rfl,h,hb⟩;have HB:=hid hb;have hr:0<=r:=(h.elim (fun h=>h.1) (fun h=>absurd h.2 (by decide)));have hd:decide (0<=r)=true:=decide_eq_true hr;clear hb h)
  go_ret
  exact⟨rfl,HB.out⟩
 |false=>
  go_enter Tryz.func54,Tryz.ntmps54
  go_wp2_with (go_at_call 81;refine HI.out.mono ?_;rw[hany];rintro e w1⟨r,rfl,h,hb⟩;have HB:=hid hb;obtain rfl:r= -1:=(h.elim (fun h=>absurd h.2 (by decide)) (fun h=>h.1));clear hb h)
  go_ret
  exact⟨rfl,HB.out⟩
end Go.Proofs.YtmnbheplkidfaaaGreatDoor
