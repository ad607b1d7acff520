import Derived.Test.YtmlkhhhjdpbhfaaGreatDoorGe16
namespace Go.Proofs.YtmlkhhhjdpbhfaaGreatDoor
open Go.RowKit Go.Proofs.Tryz
theorem Md:∀ a W,Sem.run prog (callFunc 122 a) W=.ok (.enter 122 a) W:=fun a W=>by
 unfold callFunc;go_simp;simp[Tryz.f122]
theorem JG:∀ a W,Sem.run prog (callFunc 124 a) W=.ok (.enter 124 a) W:=fun a W=>by
 unfold callFunc;go_simp;simp[Tryz.f124]
theorem Iy:∀ a W,Sem.run prog (callFunc 127 a) W=.ok (.enter 127 a) W:=fun a W=>by
 unfold callFunc;go_simp;simp[Tryz.f127]
theorem Ox:∀ a W,Sem.run prog (callFunc 158 a) W=.ok (.enter 158 a) W:=fun a W=>by
 unfold callFunc;go_simp;simp[Tryz.f158]
theorem QX:∀ a W,Sem.run prog (callFunc 147 a) W=.ok (.enter 147 a) W:=fun a W=>by
 unfold callFunc;go_simp;simp[Tryz.f147]
theorem L9:∀ a W,Sem.run prog (callFunc 142 a) W=.ok (.enter 142 a) W:=fun a W=>by
 unfold callFunc;go_simp;simp[Tryz.f142]
theorem Ji:∀ a W,Sem.run prog (callFunc 144 a) W=.ok (.enter 144 a) W:=fun a W=>by
 unfold callFunc;go_simp;simp[Tryz.f144]
theorem L4:∀ a W,Sem.run prog (callFunc 152 a) W=.ok (.enter 152 a) W:=fun a W=>by
 unfold callFunc;go_simp;simp[Tryz.f152]
theorem OY:∀ a W,Sem.run prog (callFunc 136 a) W=.ok (.enter 136 a) W:=fun a W=>by
 unfold callFunc;go_simp;simp[Tryz.f136]
theorem L7:∀ a W,Sem.run prog (callFunc 133 a) W=.ok (.enter 133 a) W:=fun a W=>by
 unfold callFunc;go_simp;simp[Tryz.f133]
theorem NQ:∀ a W,Sem.run prog (callFunc 149 a) W=.ok (.enter 149 a) W:=fun a W=>by
 unfold callFunc;go_simp;simp[Tryz.f149]
theorem OX:∀ a W,Sem.run prog (callFunc 139 a) W=.ok (.enter 139 a) W:=fun a W=>by
 unfold callFunc;go_simp;simp[Tryz.f139]
theorem Ma:∀ a W,Sem.run prog (callFunc 130 a) W=.ok (.enter 130 a) W:=fun a W=>by
 unfold callFunc;go_simp;simp[Tryz.f130]
theorem LY:∀ a W,Sem.run prog (callFunc 156 a) W=.ok (.enter 156 a) W:=fun a W=>by
 unfold callFunc;go_simp;simp[Tryz.f156]
theorem SM:∀ a W,Sem.run prog (callFunc 154 a) W=.ok (.enter 154 a) W:=fun a W=>by
 unfold callFunc;go_simp;simp[Tryz.f154]
