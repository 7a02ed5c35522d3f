/- Functions and modules that came in as arguments: what they read as. -/
import Derived.Test.YtfoggldjjnabcaaGreatDoorPpLJ
namespace Go.Proofs.YtfoggldjjnabcaaGreatDoor
open Go.ChangeShapes Go.WideShapes Go.RowKit Go.Deep
set_option linter.unusedVariables false
theorem Tryz.cells48:Tryz.prog.cellsOf 48=1:=by kernel_rfl
theorem Tryz.cells49:Tryz.prog.cellsOf 49=1:=by kernel_rfl
theorem Tryz.cells28:Tryz.prog.cellsOf 28=1:=by kernel_rfl
theorem Tryz.cells22:Tryz.prog.cellsOf 22=1:=by kernel_rfl
theorem Tryz.cells55:Tryz.prog.cellsOf 55=2:=by kernel_rfl
theorem Tryz.cells53:Tryz.prog.cellsOf 53=5:=by kernel_rfl
theorem Tryz.cells47:Tryz.prog.cellsOf 47=3:=by kernel_rfl
theorem Tryz.cells51:Tryz.prog.cellsOf 51=5:=by kernel_rfl
theorem Tryz.cells30:Tryz.prog.cellsOf 30=4:=by kernel_rfl
theorem Tryz.cells24:Tryz.prog.cellsOf 24=1:=by kernel_rfl
section
variable {H:Type} {enc:TypeId × Value→H} {w:World} {base:Nat} {spare:Nat→Bool} {held:Bool}
theorem opens_phi:Opens enc Tryz.prog w base spare held 55 2 RPhi:=fun n b o cs y hlen hat h=>by
  (obtain ⟨x,h0,w0⟩:=field_int Tryz.underlying55 h 0 _ rfl rfl (by simp;omega));(obtain ⟨A,c,xs,h1,w1⟩:=field_ints Tryz.underlying55 h 1 _ rfl rfl (by simp;omega));exact ⟨⟨x,xs⟩,⟨(hat 0 (by omega)).trans h0,w0⟩,A,c,(hat 1 (by omega)).trans h1,w1⟩
theorem opens_ins:Opens enc Tryz.prog w base spare held 53 5 RIns:=fun n b o cs y hlen hat h=>by
  (obtain ⟨x0,h0,w0⟩:=field_int Tryz.underlying53 h 0 _ rfl rfl (by simp;omega));(obtain ⟨x1,h1,w1⟩:=field_int Tryz.underlying53 h 1 _ rfl rfl (by simp;omega));(obtain ⟨A,c,xs,h2,w2⟩:=field_ints Tryz.underlying53 h 2 _ rfl rfl (by simp;omega));(obtain ⟨x3,h3,w3⟩:=field_int64 Tryz.underlying53 h 3 _ rfl rfl (by simp;omega));(obtain ⟨x4,h4,w4⟩:=field_int Tryz.underlying53 h 4 _ rfl rfl (by simp;omega));exact ⟨⟨x0,x1,xs,x3,x4⟩,⟨(hat 0 (by omega)).trans h0,w0⟩,⟨(hat 1 (by omega)).trans h1,w1⟩,⟨A,c,(hat 2 (by omega)).trans h2,w2⟩,⟨(hat 3 (by omega)).trans h3,w3⟩,⟨(hat 4 (by omega)).trans h4,w4⟩⟩
theorem opens_blk:Opens enc Tryz.prog w base spare held 51 5 RBlk:=fun n b o cs y hlen hat h=>by
  obtain ⟨n0,z0,hz0⟩:=field_of Tryz.underlying51 h 0 rfl rfl rfl Tryz.cells48;(obtain ⟨A0,c0,ps,h0,w0⟩:=slice_field Tryz.underlying48 Tryz.cells55 (by omega) opens_phi (by simp;omega) hz0);obtain ⟨n1,z1,hz1⟩:=field_of Tryz.underlying51 h 1 rfl rfl rfl Tryz.cells49;(obtain ⟨A1,c1,is,h1,w1⟩:=slice_field Tryz.underlying49 Tryz.cells53 (by omega) opens_ins (by simp;omega) hz1);obtain ⟨n2,z2,hz2⟩:=field_of Tryz.underlying51 h 2 rfl rfl rfl Tryz.cells47;(have hl2:((cs.drop 2).take 3).length=3:=by simp;omega);(obtain ⟨x2,h2,w2⟩:=field_int Tryz.underlying47 hz2 0 _ rfl rfl (by simp;omega));(obtain ⟨x3,h3,w3⟩:=field_int Tryz.underlying47 hz2 1 _ rfl rfl (by simp;omega));obtain ⟨A4,c4,xs,h4,w4⟩:=field_ints Tryz.underlying47 hz2 2 _ rfl rfl (by simp;omega)
  (have g (i:Nat) (hi:i<3):((cs.drop 2).take 3)[i]?=cs[2+i]?:=by rw [List.getElem?_take_of_lt hi,List.getElem?_drop]);exact ⟨⟨ps,is,⟨x2,x3,xs⟩⟩,⟨A0,c0,(hat 0 (by omega)).trans h0,w0⟩,⟨A1,c1,(hat 1 (by omega)).trans h1,w1⟩,⟨(hat 2 (by omega)).trans ((g 0 (by omega)).symm.trans h2),w2⟩,⟨(hat 3 (by omega)).trans ((g 1 (by omega)).symm.trans h3),w3⟩,⟨A4,c4,(hat 4 (by omega)).trans ((g 2 (by omega)).symm.trans h4),w4⟩⟩
theorem opens_fun:Opens enc Tryz.prog w base spare held 30 4 RFun:=fun n b o cs y hlen hat h=>by
  (obtain ⟨x0,h0,w0⟩:=field_int Tryz.underlying30 h 0 _ rfl rfl (by simp;omega));(obtain ⟨x1,h1,w1⟩:=field_int Tryz.underlying30 h 1 _ rfl rfl (by simp;omega));(obtain ⟨A2,c2,xs,h2,w2⟩:=field_ints Tryz.underlying30 h 2 _ rfl rfl (by simp;omega));obtain ⟨n3,z3,hz3⟩:=field_of Tryz.underlying30 h 3 rfl rfl rfl Tryz.cells28;(obtain ⟨A3,c3,bs,h3,w3⟩:=slice_field Tryz.underlying28 Tryz.cells51 (by omega) opens_blk (by simp;omega) hz3);exact ⟨⟨x0,x1,xs,bs⟩,⟨(hat 0 (by omega)).trans h0,w0⟩,⟨(hat 1 (by omega)).trans h1,w1⟩,⟨A2,c2,(hat 2 (by omega)).trans h2,w2⟩,⟨A3,c3,(hat 3 (by omega)).trans h3,w3⟩⟩
set_option maxRecDepth 100000 in
theorem open_mod {r:Go.Reach} {b0:Nat} {v:Value} {d:DataW H} {p:List MemPlace} (hv:Value.okWide Tryz.prog w r b0 24 v) (h:DataW.Trod enc Tryz.prog w base spare held 24 v d p):∃ m,VMod w v m:=by
  obtain ⟨cs,rfl,hsz⟩:=okWide_struct Tryz.underlying24 hv;rw [Tryz.cells24] at hsz;obtain ⟨l⟩:=cs
  match l,hsz with
  | [a],_ =>
    obtain ⟨fuel,hf⟩:=h;have hf:DataW.trod enc Tryz.prog w base spare held fuel 24 [a]=some (_,p):=hf;obtain ⟨n3,z3,hz3⟩:=field_of Tryz.underlying24 hf 0 rfl rfl rfl Tryz.cells22;obtain ⟨A3,c3,bs,h3,w3⟩:=slice_field Tryz.underlying22 Tryz.cells30 (by omega) opens_fun (by simp) hz3;obtain rfl:=Option.some.inj h3;exact ⟨bs,A3,c3,rfl,w3⟩
end
end Go.Proofs.YtfoggldjjnabcaaGreatDoor
