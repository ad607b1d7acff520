/- For every grammar's text, any tree's text, another one, and any number the law Generates answers true, under what the card ties: Generate's bytes, error and place are the document's answer's. -/
import Derived.Test.YtmlkhhhjdpbhfaaGreatDoorTie
import Derived.Test.YtmlkhhhjdpbhfaaGreatDoorCards
import Derived.SevenTiedAt
import Derived.Test.YtmlkhhhjdpbhfaaGreatDoorGe30
namespace Go.Proofs.YtmlkhhhjdpbhfaaGreatDoor
open Go.RowKit Go.Proofs.Tryz
set_option maxHeartbeats 4000000
set_option maxRecDepth 100000
section
open Go.ChangeShapes Go.WideShapes Go.ChangeAt Go.WideMaps Go.WideElems
section
variable {H:Type} {enc:TypeId × aI->H} {P:Program} {w:aE} {base:Nat} {spare:Nat->Bool} {held:Bool} {t t1 t2 t3:TypeId}
theorem trodAll_four{p r u}(v:DataW.TrodAll enc P w base spare held [t,t1,t2,t3] p.toList r u):
 ∃ h j k o d d1 d2 a b e f g,p=#[h,j,k,o]/\r=[d,d1,d2,a]/\u=b++e++f++g/\DataW.Trod enc P w base spare held t h d b/\DataW.Trod enc P w base spare held t1 j d1 e/\DataW.Trod enc P w base spare held t2 k d2 f/\DataW.Trod enc P w base spare held t3 o a g:=by
 obtain⟨h,X,d,J,b,q,O,rfl,rfl,x,B⟩:=trodAll_cons v;obtain⟨j,Y,d1,K,e,S,rfl,rfl,rfl,y,E⟩:=trodAll_cons B;obtain⟨k,Z,d2,L,f,U,rfl,rfl,rfl,z,F⟩:=trodAll_cons E;obtain⟨o,aa,a,M,g,V,rfl,rfl,rfl,A,I⟩:=trodAll_cons F;obtain⟨rfl,rfl,rfl⟩:=trodAll_nil I;exact⟨h,j,k,o,d,d1,d2,a,b,e,f,g,by cases p;simp_all,rfl,by simp,x,y,z,A⟩
end
theorem TY(a:Os)(U:a.Started)(H:Type)(enc:TypeId × aI->H):
 ReturnsInHanded {} Tryz.checked a 5 .any (fun w args=>(Rows.generatesSpec.pre enc Tryz.prog Tryz.f5 [] false w args/\laidMetH Tryz.prog ME w)/\sizedMet enc Tryz.prog Tryz.f5 (OpenSpec.ofChange Rows.generatesSpec) false w args)
  (Rows.generatesSpec.post enc Tryz.prog Tryz.f5 false true false false):=by
 refine returnsInHanded_of_change_and (C:=Tryz.checked) (X:=fun w _=>laidMetH Tryz.prog ME w) (fun _ _ _ L f=>f.of_heap L) Acs U kZ Tryz.func5
  (ChangeSpec.witness_at (enc:=enc) (C:=Tryz.checked) (os:=a) (X:=fun w _=>laidMetH Tryz.prog ME w) false ({World.holding Tryz.prog a ⟨#[],#[],[]⟩with heap:=U1 (World.holding Tryz.prog a ⟨#[],#[],[]⟩).heap}:aE) #[.string ByteArray.empty,.string ByteArray.empty,.string ByteArray.empty,I0 0] 8 rfl kZ kZ kZ kZ kZ (OU a _)) ?_
 intro W base args v af ab O k _ _ j _;have b:∀ (r:Nat) t u,Tryz.f5.params[r]? = some t->args[r]? = some u->Value.okWide Tryz.prog W .any base t u:=O;have I:=k;obtain⟨S,q,A,F,rfl,ah,ai⟩:=k;have h:DataW.TrodAll enc Tryz.prog W 0 (fun _=>true) true Tryz.f5.params.toList args.toList v S:=A;rw[Tryz.params5]at h b;obtain⟨V,X,Y,Z,ac,d1,d2,ad,aj,ak,al,am,rfl,rfl,rfl,h0,x,y,z⟩:=trodAll_four h;obtain⟨rfl,rfl⟩:=trodVars_none F;obtain⟨s,rfl,rfl,rfl,o⟩:=hR Tryz.underlying9 (b 0 9 V rfl rfl) h0;obtain⟨t,rfl,rfl,rfl,p⟩:=hR Tryz.underlying9 (b 1 9 X rfl rfl) x;obtain⟨g,rfl,rfl,rfl,hu⟩:=hR Tryz.underlying9 (b 2 9 Y rfl rfl) y;obtain⟨n,rfl,rfl,rfl,M⟩:=open_int Tryz.underlying3 (b 3 3 Z rfl rfl) z;have E:=Ae4 j;have B:=Aen j;refine(Me s t g o p hu n W E B).mono fun ae aa ⟨K,J⟩=>?_
 subst K;have e:Rows.generatesSpec.fn H ([.lit (.string s.data.toList),.lit (.string t.data.toList),.lit (.string g.data.toList),.lit (.int .i64 n)]++[])={results:=[.lit (.bool true)],args:=[.lit (.string s.data.toList),.lit (.string t.data.toList),.lit (.string g.data.toList),.lit (.int .i64 n)]}:=by simp[Rows.generatesSpec]
 refine⟨_,rfl,_,_,_,[],[],[],I,?_,?_,?_,J.frame _,fun f=>by cases f⟩;rw[e];exact trodAll_mk1 (shut_bool Tryz.underlying4 true);rw[e];exact trodAll_mk4 (hQ Tryz.underlying9 o) (hQ Tryz.underlying9 p) (hQ Tryz.underlying9 hu) (shut_int Tryz.underlying3 M);rw[e];rfl
theorem MV:Rows.GeneratesSaid:=
 OpenClaim.holds_of_wide 5 Tryz.f5 rfl rfl rfl rfl rfl rfl rfl ⟨rfl,rfl,rfl,rfl,rfl⟩ rfl rfl rfl rfl rfl kZ Tryz.func5 kZ
  (dE kZ) (by unfold Func.isWrapper;first|(rw[aF (by decide +kernel)];kernel_rfl)|(rw[aC (by decide +kernel)];exact⟨rfl,rfl⟩))
  (fun a b H enc _=>TY a b H enc)
theorem generates_holds:Rows.GeneratesCardSaid:=
 Claim7.holds_tied_plain_at .later [] [.data,.data,.data,.data] true (true, "6a1fd465f3fb11445f3add34bf3257ad4baedfe3326c66bb6f54bb55eadbdcba") true
  MV (fun _ b=>by cases b) kZ (fun _ b=>by cases b) generates_row_tie rfl ⟨rfl,rfl⟩ kZ rfl
  (fun f g j k=>by
    obtain rfl:f=5:=dH ((show Tryz.prog.funcNamed Rows.generatesRow.func=some 5 by kernel_rfl).symm.trans j) |>.symm;obtain rfl:g=Tryz.f5:=(dH (Tryz.func5.symm.trans k)).symm;exact⟨by kernel_rfl,fun e t a=>by
     rw[Tryz.params5]at a;have h:t=9\/t=3:=by
      rcases e with _|_|_|_|e;exact Or.inl (by simpa using a.symm);exact Or.inl (by simpa using a.symm);exact Or.inl (by simpa using a.symm);exact Or.inr (by simpa using a.symm);simp at a
     rcases h with rfl|rfl;exact(show Tryz.prog.wantsStandIn 9=false by kernel_rfl);exact(show Tryz.prog.wantsStandIn 3=false by kernel_rfl)⟩)
  kZ
#print axioms generates_holds
end
