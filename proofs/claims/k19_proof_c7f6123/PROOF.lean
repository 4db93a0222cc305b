import PyProof.Rows.All
import Wide.All
import OpenK.AllK
import Wide.FinOn
import Lean
import PyProof.EqAt
import PyProof.EqKinds
import PyProof.NeKinds
import PyProof.ZipIter
import PyProof.Rows.ZipGen
import PyProof.ExcArgs
import PyProof.CompUse
import PyProof.TupleCall
import PyProof.CompFree
import PyProof.Cells
import OpenK.KEqL
import KE.KEqDict
import PyProof.EnumIter
import PyProof.EnumFor
import PyProof.EnumMake
import PyProof.EnumStmt
import PyProof.Rows.EnumRows
import KE.KRevIter
import OpenK.KRaise
import PyProof.Draws
import PyProof.StrWalks
import PyProof.StrCalls2
import PyProof.Rows.StrJoin2
import PyProof.StrLawsTight
import PyProof.StrLawsIn
import PyProof.SliceStr2
import PyProof.StrBlockI
import PyProof.StrLawsOcc
import PyProof.StrCalls3
import KE.KIntText
import PySem.SetOps
import PyProof.TupleKey
import PyProof.SetRoads
import PyProof.Rows.SetFrom
import PyProof.ConsumeS
import PyProof.MinMaxWalk
import PyProof.StrOps2
import PyProof.WalkInts
import PyProof.LongRange
import KE.KUnpack
import PyProof.Rows.IntBool
import KE.KRevSl
import KE.KLam
import KE.KNestM
import KE.KBits
import KE.KDflt
import KE.KMinKey
import PyProof.Rows.CallKwBuiltin
import KE.KSortKey
import KE.KFind
import KE.RegKIsAll
import PySem.Challenge.RW_cellfolio_k19_whole_fewer_walked
set_option linter.all false
section
variable{G:Prop}
section
variable{A B C D E F p:Prop}
theorem wj(h:A/\B/\p)(k:A->B->p->G):G:=
 let⟨x,y,h⟩:=h;k x y h
theorem QH(h:A/\B/\C/\p)(k:A->B->C->p->G):G:=
 let⟨x,y,z,h⟩:=h;k x y z h
theorem Qq(h:A/\B/\C/\D/\p)(k:A->B->C->D->p->G):G:=
 let⟨x,y,z,u,h⟩:=h;k x y z u h
theorem gM(h:A/\B/\C/\D/\E/\p)(k:A->B->C->D->E->p->G):G:=
 let⟨x,y,z,u,v,h⟩:=h;k x y z u v h
theorem JS(x:A)(y:B)(h:p):A/\B/\p:=⟨x,y,h⟩
theorem yU(x:A)(y:B)(z:C)(h:p):A/\B/\C/\p:=⟨x,y,z,h⟩
theorem O7(x:A)(y:B)(z:C)(u:D)(h:p):A/\B/\C/\D/\p:=⟨x,y,z,u,h⟩
theorem Jb(x:A)(y:B)(z:C)(u:D)(v:E)(h:p):A/\B/\C/\D/\E/\p:=⟨x,y,z,u,v,h⟩
theorem zy(x:A)(y:B)(z:C)(u:D)(v:E)(w:F)(h:p):A/\B/\C/\D/\E/\F/\p:=⟨x,y,z,u,v,w,h⟩
end
section
variable{S:Type}{A B C D E F p:S->Prop}
theorem aO(h:∃a,A a/\p a)(k:∀a,A a->p a->G):G:=
 let⟨a,x,h⟩:=h;k a x h
theorem bL(h:∃a,A a/\B a/\p a)(k:∀a,A a->B a->p a->G):G:=
 let⟨a,x,y,h⟩:=h;k a x y h
theorem kE(h:∃a,A a/\B a/\C a/\p a)(k:∀a,A a->B a->C a->p a->G):G:=
 let⟨a,x,y,z,h⟩:=h;k a x y z h
theorem fB(a)(x:A a)(h:p a):∃a,A a/\p a:=⟨a,x,h⟩
theorem dU(a)(x:A a)(y:B a)(h:p a):∃a,A a/\B a/\p a:=⟨a,x,y,h⟩
theorem kJ(a)(x:A a)(y:B a)(z:C a)(h:p a):∃a,A a/\B a/\C a/\p a:=⟨a,x,y,z,h⟩
theorem JP(a)(x:A a)(y:B a)(z:C a)(u:D a)(h:p a):∃a,A a/\B a/\C a/\D a/\p a:=⟨a,x,y,z,u,h⟩
theorem KH(a)(x:A a)(y:B a)(z:C a)(u:D a)(v:E a)(h:p a):∃a,A a/\B a/\C a/\D a/\E a/\p a:=⟨a,x,y,z,u,v,h⟩
theorem vY(a)(x:A a)(y:B a)(z:C a)(u:D a)(v:E a)(w:F a)(h:p a):∃a,A a/\B a/\C a/\D a/\E a/\F a/\p a:=⟨a,x,y,z,u,v,w,h⟩
end
section
variable{S T:Type}{A B C D E F p:S->T->Prop}
theorem zb(h:∃a b,p a b)(k:∀a b,p a b->G):G:=
 let⟨a,b,h⟩:=h;k a b h
theorem gP(h:∃a b,A a b/\p a b)(k:∀a b,A a b->p a b->G):G:=
 let⟨a,b,x,h⟩:=h;k a b x h
theorem dB(h:∃a b,A a b/\B a b/\p a b)(k:∀a b,A a b->B a b->p a b->G):G:=
 let⟨a,b,x,y,h⟩:=h;k a b x y h
theorem jG(h:∃a b,A a b/\B a b/\C a b/\p a b)(k:∀a b,A a b->B a b->C a b->p a b->G):G:=
 let⟨a,b,x,y,z,h⟩:=h;k a b x y z h
theorem yS(h:∃a b,A a b/\B a b/\C a b/\D a b/\p a b)(k:∀a b,A a b->B a b->C a b->D a b->p a b->G):G:=
 let⟨a,b,x,y,z,u,h⟩:=h;k a b x y z u h
theorem oM(h:∃a b,A a b/\B a b/\C a b/\D a b/\E a b/\p a b)(k:∀a b,A a b->B a b->C a b->D a b->E a b->p a b->G):G:=
 let⟨a,b,x,y,z,u,v,h⟩:=h;k a b x y z u v h
theorem Qx(a b)(h:p a b):∃a b,p a b:=⟨a,b,h⟩
theorem mF(a b)(x:A a b)(h:p a b):∃a b,A a b/\p a b:=⟨a,b,x,h⟩
theorem di(a b)(x:A a b)(y:B a b)(h:p a b):∃a b,A a b/\B a b/\p a b:=⟨a,b,x,y,h⟩
theorem cR(a b)(x:A a b)(y:B a b)(z:C a b)(h:p a b):∃a b,A a b/\B a b/\C a b/\p a b:=⟨a,b,x,y,z,h⟩
theorem gJ(a b)(x:A a b)(y:B a b)(z:C a b)(u:D a b)(h:p a b):∃a b,A a b/\B a b/\C a b/\D a b/\p a b:=⟨a,b,x,y,z,u,h⟩
theorem IW(a b)(x:A a b)(y:B a b)(z:C a b)(u:D a b)(v:E a b)(h:p a b):∃a b,A a b/\B a b/\C a b/\D a b/\E a b/\p a b:=⟨a,b,x,y,z,u,v,h⟩
theorem xx(a b)(x:A a b)(y:B a b)(z:C a b)(u:D a b)(v:E a b)(w:F a b)(h:p a b):∃a b,A a b/\B a b/\C a b/\D a b/\E a b/\F a b/\p a b:=⟨a,b,x,y,z,u,v,w,h⟩
end
section
variable{S T U:Type}{A B C D E F p:S->T->U->Prop}
theorem pM(h:∃a b c,A a b c/\p a b c)(k:∀a b c,A a b c->p a b c->G):G:=
 let⟨a,b,c,x,h⟩:=h;k a b c x h
theorem oR(h:∃a b c,A a b c/\B a b c/\p a b c)(k:∀a b c,A a b c->B a b c->p a b c->G):G:=
 let⟨a,b,c,x,y,h⟩:=h;k a b c x y h
theorem jn(h:∃a b c,A a b c/\B a b c/\C a b c/\p a b c)(k:∀a b c,A a b c->B a b c->C a b c->p a b c->G):G:=
 let⟨a,b,c,x,y,z,h⟩:=h;k a b c x y z h
theorem kh(h:∃a b c,A a b c/\B a b c/\C a b c/\D a b c/\p a b c)(k:∀a b c,A a b c->B a b c->C a b c->D a b c->p a b c->G):G:=
 let⟨a,b,c,x,y,z,u,h⟩:=h;k a b c x y z u h
theorem Oe(a b c)(h:p a b c):∃a b c,p a b c:=⟨a,b,c,h⟩
theorem iu(a b c)(x:A a b c)(y:B a b c)(h:p a b c):∃a b c,A a b c/\B a b c/\p a b c:=⟨a,b,c,x,y,h⟩
theorem uh(a b c)(x:A a b c)(y:B a b c)(z:C a b c)(h:p a b c):∃a b c,A a b c/\B a b c/\C a b c/\p a b c:=⟨a,b,c,x,y,z,h⟩
theorem eH(a b c)(x:A a b c)(y:B a b c)(z:C a b c)(u:D a b c)(h:p a b c):∃a b c,A a b c/\B a b c/\C a b c/\D a b c/\p a b c:=⟨a,b,c,x,y,z,u,h⟩
theorem xQ(a b c)(x:A a b c)(y:B a b c)(z:C a b c)(u:D a b c)(v:E a b c)(h:p a b c):∃a b c,A a b c/\B a b c/\C a b c/\D a b c/\E a b c/\p a b c:=⟨a,b,c,x,y,z,u,v,h⟩
theorem nj(a b c)(x:A a b c)(y:B a b c)(z:C a b c)(u:D a b c)(v:E a b c)(w:F a b c)(h:p a b c):∃a b c,A a b c/\B a b c/\C a b c/\D a b c/\E a b c/\F a b c/\p a b c:=⟨a,b,c,x,y,z,u,v,w,h⟩
end
section
variable{S T U V:Type}{A B C D E F p:S->T->U->V->Prop}
theorem gn(h:∃a b c d,A a b c d/\p a b c d)(k:∀a b c d,A a b c d->p a b c d->G):G:=
 let⟨a,b,c,d,x,h⟩:=h;k a b c d x h
theorem jq(h:∃a b c d,A a b c d/\B a b c d/\C a b c d/\p a b c d)(k:∀a b c d,A a b c d->B a b c d->C a b c d->p a b c d->G):G:=
 let⟨a,b,c,d,x,y,z,h⟩:=h;k a b c d x y z h
theorem dG(h:∃a b c d,A a b c d/\B a b c d/\C a b c d/\D a b c d/\p a b c d)(k:∀a b c d,A a b c d->B a b c d->C a b c d->D a b c d->p a b c d->G):G:=
 let⟨a,b,c,d,x,y,z,u,h⟩:=h;k a b c d x y z u h
theorem PJ(a b c d)(h:p a b c d):∃a b c d,p a b c d:=⟨a,b,c,d,h⟩
theorem N5(a b c d)(x:A a b c d)(h:p a b c d):∃a b c d,A a b c d/\p a b c d:=⟨a,b,c,d,x,h⟩
theorem ur(a b c d)(x:A a b c d)(y:B a b c d)(h:p a b c d):∃a b c d,A a b c d/\B a b c d/\p a b c d:=⟨a,b,c,d,x,y,h⟩
theorem fV(a b c d)(x:A a b c d)(y:B a b c d)(z:C a b c d)(h:p a b c d):∃a b c d,A a b c d/\B a b c d/\C a b c d/\p a b c d:=⟨a,b,c,d,x,y,z,h⟩
theorem aU(a b c d)(x:A a b c d)(y:B a b c d)(z:C a b c d)(u:D a b c d)(h:p a b c d):∃a b c d,A a b c d/\B a b c d/\C a b c d/\D a b c d/\p a b c d:=⟨a,b,c,d,x,y,z,u,h⟩
theorem bx(a b c d)(x:A a b c d)(y:B a b c d)(z:C a b c d)(u:D a b c d)(v:E a b c d)(h:p a b c d):∃a b c d,A a b c d/\B a b c d/\C a b c d/\D a b c d/\E a b c d/\p a b c d:=⟨a,b,c,d,x,y,z,u,v,h⟩
theorem tK(a b c d)(x:A a b c d)(y:B a b c d)(z:C a b c d)(u:D a b c d)(v:E a b c d)(w:F a b c d)(h:p a b c d):∃a b c d,A a b c d/\B a b c d/\C a b c d/\D a b c d/\E a b c d/\F a b c d/\p a b c d:=⟨a,b,c,d,x,y,z,u,v,w,h⟩
end
section
variable{S T U V W:Type}{A B C D E F p:S->T->U->V->W->Prop}
theorem dJ(h:∃a b c d e,A a b c d e/\B a b c d e/\C a b c d e/\D a b c d e/\E a b c d e/\F a b c d e/\p a b c d e)(k:∀a b c d e,A a b c d e->B a b c d e->C a b c d e->D a b c d e->E a b c d e->F a b c d e->p a b c d e->G):G:=
 let⟨a,b,c,d,e,x,y,z,u,v,w,h⟩:=h;k a b c d e x y z u v w h
theorem gW(a b c d e)(x:A a b c d e)(y:B a b c d e)(z:C a b c d e)(u:D a b c d e)(h:p a b c d e):∃a b c d e,A a b c d e/\B a b c d e/\C a b c d e/\D a b c d e/\p a b c d e:=⟨a,b,c,d,e,x,y,z,u,h⟩
theorem gZ(a b c d e)(x:A a b c d e)(y:B a b c d e)(z:C a b c d e)(u:D a b c d e)(v:E a b c d e)(h:p a b c d e):∃a b c d e,A a b c d e/\B a b c d e/\C a b c d e/\D a b c d e/\E a b c d e/\p a b c d e:=⟨a,b,c,d,e,x,y,z,u,v,h⟩
theorem il(a b c d e)(x:A a b c d e)(y:B a b c d e)(z:C a b c d e)(u:D a b c d e)(v:E a b c d e)(w:F a b c d e)(h:p a b c d e):∃a b c d e,A a b c d e/\B a b c d e/\C a b c d e/\D a b c d e/\E a b c d e/\F a b c d e/\p a b c d e:=⟨a,b,c,d,e,x,y,z,u,v,w,h⟩
end
section
variable{S T U V W Y:Type}{A B C D E F p:S->T->U->V->W->Y->Prop}
theorem dZ(h:∃a b c d e f,A a b c d e f/\p a b c d e f)(k:∀a b c d e f,A a b c d e f->p a b c d e f->G):G:=
 let⟨a,b,c,d,e,f,x,h⟩:=h;k a b c d e f x h
theorem gb(a b c d e f)(h:p a b c d e f):∃a b c d e f,p a b c d e f:=⟨a,b,c,d,e,f,h⟩
theorem sX(a b c d e f)(x:A a b c d e f)(y:B a b c d e f)(z:C a b c d e f)(u:D a b c d e f)(h:p a b c d e f):∃a b c d e f,A a b c d e f/\B a b c d e f/\C a b c d e f/\D a b c d e f/\p a b c d e f:=⟨a,b,c,d,e,f,x,y,z,u,h⟩
theorem mU(a b c d e f)(x:A a b c d e f)(y:B a b c d e f)(z:C a b c d e f)(u:D a b c d e f)(v:E a b c d e f)(h:p a b c d e f):∃a b c d e f,A a b c d e f/\B a b c d e f/\C a b c d e f/\D a b c d e f/\E a b c d e f/\p a b c d e f:=⟨a,b,c,d,e,f,x,y,z,u,v,h⟩
theorem gC(a b c d e f)(x:A a b c d e f)(y:B a b c d e f)(z:C a b c d e f)(u:D a b c d e f)(v:E a b c d e f)(w:F a b c d e f)(h:p a b c d e f):∃a b c d e f,A a b c d e f/\B a b c d e f/\C a b c d e f/\D a b c d e f/\E a b c d e f/\F a b c d e f/\p a b c d e f:=⟨a,b,c,d,e,f,x,y,z,u,v,w,h⟩
end
section
variable{S T U V W Y X O M:Type}{A B p:S->T->U->V->W->Y->X->O->M->Prop}
theorem bM(h:∃a b c d e f g i j,A a b c d e f g i j/\B a b c d e f g i j/\p a b c d e f g i j)(k:∀a b c d e f g i j,A a b c d e f g i j->B a b c d e f g i j->p a b c d e f g i j->G):G:=
 let⟨a,b,c,d,e,f,g,i,j,x,y,h⟩:=h;k a b c d e f g i j x y h
end
theorem FN{S:Type}{A:Prop}{B p:S->Prop}(h:A/\∃a,B a/\p a)(k:A->∀a,B a->p a->G):G:=
 let⟨x,a,y,h⟩:=h;k x a y h
theorem R6{S T:Type}{A:Prop}{B p:S->T->Prop}(h:A/\∃a b,B a b/\p a b)(k:A->∀a b,B a b->p a b->G):G:=
 let⟨x,a,b,y,h⟩:=h;k x a b y h
theorem zG{S T:Type}{A:Prop}{B C p:S->T->Prop}(h:A/\∃a b,B a b/\C a b/\p a b)(k:A->∀a b,B a b->C a b->p a b->G):G:=
 let⟨x,a,b,y,z,h⟩:=h;k x a b y z h
theorem uJ{S T:Type}{A B:S->Prop}{p:S->T->Prop}(h:∃a,A a/\B a/\∃b,p a b)(k:∀a,A a->B a->∀b,p a b->G):G:=
 let⟨a,x,y,b,h⟩:=h;k a x y b h
theorem JN{S T:Type}{A:S->Prop}{p:S->T->Prop}(h:∃a,A a/\∃b,p a b)(k:∀a,A a->∀b,p a b->G):G:=
 let⟨a,x,b,h⟩:=h;k a x b h
theorem tR{S:Type}{A B:Prop}{C p:S->Prop}(x:A)(y:B)(a)(z:C a)(h:p a):A/\B/\∃a,C a/\p a:=⟨x,y,a,z,h⟩
theorem dz{S T:Type}{A B:S->Prop}{C p:S->T->Prop}(a)(x:A a)(y:B a)(b)(z:C a b)(h:p a b):∃a,A a/\B a/\∃b,C a b/\p a b:=⟨a,x,y,b,z,h⟩
theorem bT{S T:Type}{A:S->Prop}{B p:S->T->Prop}(a)(x:A a)(b)(y:B a b)(h:p a b):∃a,A a/\∃b,B a b/\p a b:=⟨a,x,b,y,h⟩
theorem bc{S T:Type}{A:S->Prop}{B C p:S->T->Prop}(a)(x:A a)(b)(y:B a b)(z:C a b)(h:p a b):∃a,A a/\∃b,B a b/\C a b/\p a b:=⟨a,x,b,y,z,h⟩
theorem m8{S T:Type}{A:S->Prop}{B C D p:S->T->Prop}(a)(x:A a)(b)(y:B a b)(z:C a b)(u:D a b)(h:p a b):∃a,A a/\∃b,B a b/\C a b/\D a b/\p a b:=⟨a,x,b,y,z,u,h⟩
theorem bG{S T U:Type}{A:S->Prop}{B:S->T->Prop}{C p:S->T->U->Prop}(a)(x:A a)(b)(y:B a b)(c)(z:C a b c)(h:p a b c):∃a,A a/\∃b,B a b/\∃c,C a b c/\p a b c:=⟨a,x,b,y,c,z,h⟩
theorem aH{S T U V W Y:Type}{A:S->Prop}{B:S->T->Prop}{C D E F p:S->T->U->V->W->Y->Prop}(a)(x:A a)(b)(y:B a b)(c d e f)(z:C a b c d e f)(u:D a b c d e f)(v:E a b c d e f)(w:F a b c d e f)(h:p a b c d e f):∃a,A a/\∃b,B a b/\∃c d e f,C a b c d e f/\D a b c d e f/\E a b c d e f/\F a b c d e f/\p a b c d e f:=⟨a,x,b,y,c,d,e,f,z,u,v,w,h⟩
theorem bC{S T U:Type}{A:S->Prop}{B C p:S->T->U->Prop}(a)(x:A a)(b c)(y:B a b c)(z:C a b c)(h:p a b c):∃a,A a/\∃b c,B a b c/\C a b c/\p a b c:=⟨a,x,b,c,y,z,h⟩
theorem aM{S T U:Type}{A:S->Prop}{B C D p:S->T->U->Prop}(a)(x:A a)(b c)(y:B a b c)(z:C a b c)(u:D a b c)(h:p a b c):∃a,A a/\∃b c,B a b c/\C a b c/\D a b c/\p a b c:=⟨a,x,b,c,y,z,u,h⟩
theorem bz{S T U V:Type}{A:S->Prop}{B C D p:S->T->U->V->Prop}(a)(x:A a)(b c d)(y:B a b c d)(z:C a b c d)(u:D a b c d)(h:p a b c d):∃a,A a/\∃b c d,B a b c d/\C a b c d/\D a b c d/\p a b c d:=⟨a,x,b,c,d,y,z,u,h⟩
theorem cX{S T U V W:Type}{A:S->Prop}{B C D p:S->T->U->V->W->Prop}(a)(x:A a)(b c d e)(y:B a b c d e)(z:C a b c d e)(u:D a b c d e)(h:p a b c d e):∃a,A a/\∃b c d e,B a b c d e/\C a b c d e/\D a b c d e/\p a b c d e:=⟨a,x,b,c,d,e,y,z,u,h⟩
theorem bh{S T U V W:Type}{A:S->Prop}{B C D E p:S->T->U->V->W->Prop}(a)(x:A a)(b c d e)(y:B a b c d e)(z:C a b c d e)(u:D a b c d e)(v:E a b c d e)(h:p a b c d e):∃a,A a/\∃b c d e,B a b c d e/\C a b c d e/\D a b c d e/\E a b c d e/\p a b c d e:=⟨a,x,b,c,d,e,y,z,u,v,h⟩
theorem fZ{S T U:Type}{A B:S->T->Prop}{C p:S->T->U->Prop}(a b)(x:A a b)(y:B a b)(c)(z:C a b c)(h:p a b c):∃a b,A a b/\B a b/\∃c,C a b c/\p a b c:=⟨a,b,x,y,c,z,h⟩
theorem du{S T U V:Type}{A B:S->T->Prop}{C D E p:S->T->U->V->Prop}(a b)(x:A a b)(y:B a b)(c d)(z:C a b c d)(u:D a b c d)(v:E a b c d)(h:p a b c d):∃a b,A a b/\B a b/\∃c d,C a b c d/\D a b c d/\E a b c d/\p a b c d:=⟨a,b,x,y,c,d,z,u,v,h⟩
end
set_option Elab.async false
set_option maxRecDepth 100000
local macro_rules | `(tactic| walk_at "o")=>`(tactic| first | exact Or.inl rfl | exact Or.inr rfl)
local macro_rules | `(tactic| walk_at "s")=>`(tactic| exact⟨rfl,rfl,rfl,by decide+kernel,rfl,by decide+kernel,by decide+kernel⟩)
set_option hygiene false
local macro_rules | `(tactic| walk_at "n")=>`(tactic| ((try have sm:=sm.trans z_);(try have ex:=z_ _ _ ex);(try have et1:=z_ _ _ et1);(try have et2:=z_ _ _ et2);(try have et3:=z_ _ _ et3);(try have el1:=z_ _ _ el1);(try have et4:=z_ _ _ et4);(try have et5:=z_ _ _ et5);(try have em2:=z_ _ _ em2);(try have el2:=z_ _ _ el2);(try have et6:=z_ _ _ et6);(try have et7:=z_ _ _ et7);(try have em3:=z_ _ _ em3);(try have el3:=z_ _ _ el3);(try have et8:=z_ _ _ et8);(try have et9:=z_ _ _ et9);(try have em4:=z_ _ _ em4)))
local macro_rules | `(tactic| walk_at "w")=>`(tactic| ((try have sm:=sm.trans z_);(try have sm1:=sm1.trans z_);(try have esp:=z_ _ _ esp);(try have bsp:=bsp.mono z_);(try have elg:=z_ _ _ elg);(try have pic:=pic.mono z_);(try have er:=z_ _ _ er);(try have er0:=z_ _ _ er0);(try have pcq:=pcq.mono z_);(try have es1:=z_ _ _ es1);(try have be4:=be4.mono z_);(try have ee5:=z_ _ _ ee5);(try have ee7:=z_ _ _ ee7);(try have ei8:=z_ _ _ ei8);(try have ee8:=z_ _ _ ee8);(try have ei9:=z_ _ _ ei9);(try have ee9:=z_ _ _ ee9);(try have ee11:=z_ _ _ ee11);(try have eL1:=z_ _ _ eL1);(try have b11:=b11.mono z_);(try have epic:=z_ _ _ epic);(try have ec1:=z_ _ _ ec1);(try have ed1:=z_ _ _ ed1);(try have bf1:=bf1.mono z_);(try have es3:=z_ _ _ es3);(try have el3:=z_ _ _ el3);(try have em3:=z_ _ _ em3);(try have bf2:=bf2.mono z_);(try have et1:=z_ _ _ et1);(try have etr:=z_ _ _ etr);(try have et2:=z_ _ _ et2);(try have et3:=z_ _ _ et3);(try have et4:=z_ _ _ et4);(try have bf3:=bf3.mono z_);(try have eL2:=z_ _ _ eL2);(try have s1:=s1.trans z_);(try have esy:=z_ _ _ esy);(try have psp:=psp.mono z_);(try have tsp:=z_ _ _ tsp);(try have eu1:=z_ _ _ eu1);(try have eu2:=z_ _ _ eu2);(try have eu3:=z_ _ _ eu3);(try have eu4:=z_ _ _ eu4)))
set_option hygiene true
theorem Z{α:Sort _}{a:α}:a=a:=rfl
theorem J{α:Sort _}{a:α}:a=a:=rfl
namespace L2
open PySem PySem.Spec PyProof.Rows
noncomputable abbrev Key:=Sum Int Str
noncomputable def Ma:Key->Value->Bool
 | .inl k,v=>Value.isInt k v
 | .inr x,v=>Value.isStrOf x v
noncomputable def Ri(w:World):Key->Int
 | .inl k=>hashInt k
 | .inr x=>hashStr w x
theorem dN:∀{k:Key}{v:Value},Ma k v=true->(∃i t,k=Sum.inl i/\v=Value.int i t)\/(∃x t,k=Sum.inr x/\v=Value.str x t)
 | .inl i,v,h=>by obtain⟨t,e⟩:=Value.isInt_shape (k:=i) (v:=v) h;exact .inl ⟨i,t,Z,e⟩
 | .inr x,v,h=>by obtain⟨t,e⟩:=Value.isStrOf_shape (x:=x) (v:=v) h;exact .inr ⟨x,t,Z,e⟩
theorem My(a b:Int):decide ((Sum.inl a:Key)=Sum.inl b)=(a==b):=by
 by_cases e:a=b
 ·subst e;simp
 ·have h:¬(Sum.inl a:Key)=Sum.inl b:=fun q=>e (Sum.inl.inj q);rw[decide_eq_false h];exact(beq_eq_false_iff_ne.mpr e).symm
theorem Mx(a b:Str):decide ((Sum.inr a:Key)=Sum.inr b)=decide (a=b):=by
 by_cases e:a=b
 ·subst e;simp
 ·have h:¬(Sum.inr a:Key)=Sum.inr b:=fun q=>e (Sum.inr.inj q);rw[decide_eq_false h,decide_eq_false e]
theorem Nf(a:Int)(b:Str):decide ((Sum.inl a:Key)=Sum.inr b)=false:=decide_eq_false (fun q=>nomatch q)
theorem Nt(a:Str)(b:Int):decide ((Sum.inr a:Key)=Sum.inl b)=false:=decide_eq_false (fun q=>nomatch q)
noncomputable def El(prog:Program)(w:World):PySem.KeyKind prog w Key where
 is:=Ma
 hash:=Ri w
 inj:=fun v a b ha hb=>by
  rcases dN ha with⟨i,t,rfl,rfl⟩ | ⟨x,t,rfl,rfl⟩
  ·rcases dN hb with⟨j,u,rfl,e⟩ | ⟨y,u,rfl,e⟩
   ·injection e with e1 _;rw[e1]
   ·exact nomatch e
  ·rcases dN hb with⟨j,u,rfl,e⟩ | ⟨y,u,rfl,e⟩
   ·exact nomatch e
   ·injection e with e1 _;rw[e1]
 byValue:=fun k v h=>by rcases dN h with⟨i,t,rfl,rfl⟩ | ⟨x,t,rfl,rfl⟩<;>rfl
 pyHash:=fun hv h=>by
  rcases dN hv with⟨i,t,rfl,rfl⟩ | ⟨x,t,rfl,rfl⟩
  ·exact wpAny_pyHash_int h
  ·exact wpAny_pyHash_str h
 eqBool:=fun hu hv h=>by
  rcases dN hu with⟨i,t,rfl,rfl⟩ | ⟨x,t,rfl,rfl⟩
  ·rcases dN hv with⟨j,u,rfl,rfl⟩ | ⟨y,u,rfl,rfl⟩
   ·rw[My] at h;exact wpAny_eqBool_int h
   ·rw[Nf] at h;exact SeqAt.EqAt.int_str i t y u _ _ _ _ h
  ·rcases dN hv with⟨j,u,rfl,rfl⟩ | ⟨y,u,rfl,rfl⟩
   ·rw[Nt] at h;exact SeqAt.EqAt.str_int x t j u _ _ _ _ h
   ·rw[Mx] at h;exact wpAny_eqBool_str h
 «strs»:=fun k x t v h=>by
  rcases dN h with⟨i,u,rfl,e⟩ | ⟨y,u,rfl,e⟩
  ·exact nomatch e
  ·injection e with e1 _
   subst e1;cases v<;>rfl
inductive V where
 | non | bl (b:Bool) | int (i:Int) | str (x:Str) | byt (b:Array UInt8) | flt (b:UInt64) | ref (a:Addr) | ty (n:String)
 deriving DecidableEq
noncomputable def RelV:V->Value->Prop
 | .non,u=>u=Value.none
 | .bl b,u=>u=Value.bool b
 | .int i,u=>∃t,u=Value.int i t
 | .str x,u=>∃t,u=Value.str x t
 | .byt b,u=>∃t,u=Value.bytes b t
 | .flt b,u=>∃t,u=Value.float b t
 | .ref a,u=>u=Value.ref a
 | .ty n,u=>u=Value.type n
noncomputable abbrev Vals:List V->List Value->Prop:=Paired RelV
theorem Vals.length {xs:List V} {us:List Value} (r:Vals xs us):xs.length=us.length:=Paired.length r
theorem Vals.get:∀{xs:List V}{us:List Value}{i:Nat}{x:V},Vals xs us->xs[i]? =some x->∃u,us[i]? =some u/\RelV x u
 | _,_,_,_,.nil,e=>by simp at e
 | _,_,0,_,.cons r _,e=>by simp at e;subst e;exact⟨_,Z,r⟩
 | _,_,i+1,x,.cons _ t,e=>by obtain⟨u,h1,h2⟩:=Vals.get (i:=i) (x:=x) t (by simpa using e);exact⟨u,by simpa using h1,h2⟩
theorem Vals.set {x:V} {u:Value} (r:RelV x u):∀{xs:List V}{us:List Value}(i:Nat),Vals xs us->Vals (xs.set i x) (us.set i u)
 | _,_,_,.nil=> .nil
 | _,_,0,.cons _ t=> .cons r t
 | _,_,i+1,.cons q t=> .cons q (Vals.set r i t)
theorem Vals.append:∀{xs ys:List V}{us ws:List Value},Vals xs us->Vals ys ws->Vals (xs++ys) (us++ws)
 | _,_,_,_,.nil,s=>s
 | _,_,_,_,.cons r t,s=> .cons r (Vals.append t s)
theorem Vals.take:∀{xs:List V}{us:List Value}(n:Nat),Vals xs us->Vals (xs.take n) (us.take n)
 | _,_,0,_=> .nil
 | _,_,_+1,.nil=> .nil
 | _,_,n+1,.cons r t=> .cons r (Vals.take n t)
theorem Vals.drop:∀{xs:List V}{us:List Value}(n:Nat),Vals xs us->Vals (xs.drop n) (us.drop n)
 | _,_,0,r=>r
 | _,_,_+1,.nil=> .nil
 | _,_,n+1,.cons _ t=>Vals.drop n t
theorem Vals.none_of:∀{xs:List V}{us:List Value}{i:Nat},Vals xs us->xs[i]? =none->us[i]? =none:=fun{xs us i} r e=>by have h1:=r.length;have h2:xs.length<=i:=List.getElem?_eq_none_iff.mp e;exact List.getElem?_eq_none_iff.mpr (by omega)
noncomputable def wG:Option V->Option Value->Prop
 | some v,some u=>RelV v u
 | none,none=>True
 | _,_=>False
noncomputable def KV{κ:Type}:List (κ×V)->List (κ×Value)->Prop:=Paired fun(p:κ×V) (q:κ×Value)=>p.1=q.1/\RelV p.2 q.2
noncomputable def kV:Key->V
 | .inl i=> .int i
 | .inr x=> .str x
inductive HO where
 | lst (xs:List V)
 | tup (xs:List V)
 | dK (kvs:List (Key×V)) | dT (kvs:List (List Key×V))
 | set (S:Int->Bool) (n:Nat)
 | ins (C dx:Addr) (fs:List (Str×V))
 | own (x:Addr)
 | xd (fs:List (Str×V))
 | met (f x:Addr)
 | rng (lo hi:Int)
 | frz (o:Obj) (u:HO)
 | tbl (ps:Array Value)
 | ext (φ:Heap->Prop)
noncomputable abbrev Hp:=Addr->Option HO
noncomputable def upd(H:Hp)(a:Addr)(o:HO):Hp:=fun b=>if b=a then some o else H b
theorem ak{H:Hp}{a:Addr}{o:HO}:upd H a o a=some o:=by unfold upd;rw[if_pos rfl]
theorem aB{H:Hp}{a b:Addr}{o:HO}(h:b≠a):upd H a o b=H b:=by unfold upd;rw[if_neg h]
theorem Ak{H:Hp}{a b:Addr}{o u:HO}(h:H a=some o)(h':H b=some u)(d:o≠u):a≠b:=by intro e;subst e;rw[h] at h';exact d (Option.some.inj h')
theorem aF{H:Hp}{a b:Addr}{o:HO}(h:H a=some o)(h':H b=none):a≠b:=by intro e;subst e;rw[h] at h';cases h'
section
variable(P:Program)(w:World)
noncomputable def dO(H:Hp)(h:Heap)(a:Addr):HO->Prop
 | .lst xs=>xs.length<=sizeLine/\∃(its:List Value)(n:Nat),Vals xs its/\h.get? a=some {cls:= .type "list",data:= .seq its.toArray n}
 | .tup xs=>xs.length<=sizeLine/\∃its:List Value,Vals xs its/\IsTup h a its.toArray
 | .dK kvs=>kvs.length<=sizeLine/\(a==sysModules)=false/\∃vs,KV kvs vs/\h.DictOf (El P w) a vs
 | .dT kvs=>kvs.length<=sizeLine/\(a==sysModules)=false/\∃xs:List (List Key×Addr×Value),
   Paired (fun(p:List Key×V) (q:List Key×Addr×Value)=>p.1=q.1/\H q.2.1=some (.tup (p.1.map kV))/\RelV p.2 q.2.2) kvs xs/\
   ∃o es ep,h.get? a=some o/\o.ExactDict/\o.data= .dict es ep/\es.toList=xs.map (entryOfKey (tupleKind (El P w)))/\(xs.map (·.1)).Nodup
 | .set S n=>h.SetOf (intKind P w) a S n
 | .ins C dx fs=>H dx=some (.own a)/\fs.length<=1000/\dx≠a/\h.get? a=some (W.instObj C dx)/\
   ∃mA,h.Ns1 dx mA/\(∀f,wG (fs.lookup f) (mA f))/\PySem.Within mA (fs.map (·.1))
 | .own _=>∃o,h.get? a=some o
 | .xd fs=>∃mA,h.Ns1 a mA/\∀f,wG (fs.lookup f) (mA f)
 | .rng lo hi=>∃t u v,h.get? a=some {cls:= .type "range",data:= .fields #[.int lo t,.int hi u,.int 1 v]}
 | .frz o u=>h.get? a=some o/\dO H h a u
 | .tbl ps=>h.get? a=some {cls:= .none,data:= .fields ps}
 | .met f x=>h.get? a=some (W.methodObj (.ref f) (.ref x))
 | .ext φ=>φ h/\(∃o,h.get? a=some o)/\∀h1 h2:Heap,φ h1->(∀o,h1.get? a=some o->h2.get? a=some o)->φ h2
noncomputable def tM(H:Hp)(h:Heap):Prop:=∀a o,H a=some o->dO P w H h a o
end
section
variable{P:Program}{w:World}{H H':Hp}{h h':Heap}{a:Addr}{o:HO}
theorem dO.lt (x:dO P w H h a o):a<h.objs.size:=by
 cases o with
 | lst xs=>obtain⟨_,_,_,_,e⟩:=x;exact Heap.lt_size e
 | tup xs=>obtain⟨_,_,_,p⟩:=x;exact p.lt
 | dK kvs=>obtain⟨_,_,_,_,o,_,_,e,_⟩:=x;exact Heap.lt_size e
 | dT kvs=>obtain⟨_,_,_,_,o,_,_,e,_⟩:=x;exact Heap.lt_size e
 | set S n=>obtain⟨o,_,_,_,e,_⟩:=x;exact Heap.lt_size e
 | ins C dx fs=>obtain⟨_,_,_,e,_⟩:=x;exact Heap.lt_size e
 | own y=>obtain⟨_,e⟩:=x;exact Heap.lt_size e
 | xd fs=>obtain⟨_,⟨_,_,_,e,_⟩,_⟩:=x;exact Heap.lt_size e
 | rng lo hi=>obtain⟨_,_,_,e⟩:=x;exact Heap.lt_size e
 | frz ob u=>obtain⟨e,_⟩:=x;exact Heap.lt_size e
 | tbl ps=>exact Heap.lt_size (show h.get? a=some _ from x)
 | met f y=>exact Heap.lt_size (show h.get? a=some _ from x)
 | ext φ=>obtain⟨_,⟨_,e⟩,_⟩:=x;exact Heap.lt_size e
theorem Paired.mapP {α β:Type} {F G:α->β->Prop}:∀{l₁:List α}{l₂:List β},Paired F l₁ l₂->(∀a b,F a b->G a b)->Paired G l₁ l₂
 | _,_,.nil,_=> .nil
 | _,_,.cons r t,f=> .cons (f _ _ r) (Paired.mapP t f)
theorem dO.stay (x:dO P w H h a o) (k:∀b u,(b=a\/H b=some (.own a))->h.get? b=some u->h'.get? b=some u)
  (ho:∀b,H b=some (.own a)->H' b=some (.own a)) (ht:∀b xs,H b=some (.tup xs)->H' b=some (.tup xs)):dO P w H' h' a o:=by
 induction o with
 | lst xs=>obtain⟨z,its,n,r,e⟩:=x;exact⟨z,its,n,r,k _ _ (.inl Z) e⟩
 | tup xs=>obtain⟨z,its,r,ob,e,c⟩:=x;exact⟨z,its,r,ob,k _ _ (.inl Z) e,c⟩
 | dK kvs=>obtain⟨z,y,vs,r,ob,es,ep,e,c⟩:=x;exact⟨z,y,vs,r,ob,es,ep,k _ _ (.inl Z) e,c⟩
 | dT kvs=>
  obtain⟨z,y,xs,r,ob,es,ep,e,c⟩:=x;exact⟨z,y,xs,Paired.mapP r fun p q z=>⟨z.1,ht _ _ z.2.1,z.2.2⟩,ob,es,ep,k _ _ (.inl Z) e,c⟩
 | set S n=>obtain⟨ob,es,ep,t,e,c⟩:=x;exact⟨ob,es,ep,t,k _ _ (.inl Z) e,c⟩
 | ins C dx fs=>
  obtain⟨d,z,ne,e,mA,⟨od,es,ep,e2,c⟩,r⟩:=x;exact⟨ho _ d,z,ne,k _ _ (.inl Z) e,mA,⟨od,es,ep,k _ _ (.inr d) e2,c⟩,r⟩
 | own y=>obtain⟨ob,e⟩:=x;exact⟨ob,k _ _ (.inl Z) e⟩
 | xd fs=>obtain⟨mA,⟨od,es,ep,e,c⟩,r⟩:=x;exact⟨mA,⟨od,es,ep,k _ _ (.inl Z) e,c⟩,r⟩
 | rng lo hi=>obtain⟨t,u,v,e⟩:=x;exact⟨t,u,v,k _ _ (.inl Z) e⟩
 | frz ob u ih=>obtain⟨e,q⟩:=x;exact⟨k _ _ (.inl Z) e,ih q⟩
 | tbl ps=>
  have e:h.get? a=some {cls:= .none,data:= .fields ps}:=x;show h'.get? a=some {cls:= .none,data:= .fields ps};exact k a _ (.inl Z) e
 | met f y=>
  have e:h.get? a=some (W.methodObj (.ref f) (.ref y)):=x;show h'.get? a=some (W.methodObj (.ref f) (.ref y));exact k a _ (.inl Z) e
 | ext φ=>obtain⟨p,⟨o,e⟩,st⟩:=x;exact⟨st _ _ p fun o q=>k _ _ (.inl Z) q,⟨o,k _ _ (.inl Z) e⟩,st⟩
theorem tM.lt (x:tM P w H h) (e:H a=some o):a<h.objs.size:=(x a o e).lt
theorem tM.fresh (x:tM P w H h) (e:h.objs.size<=a):H a=none:=by
 cases q:H a with
 | none=>rfl
 | some u=>exact absurd (Nat.lt_of_lt_of_le (x.lt q) e) (Nat.lt_irrefl _)
theorem tM.kept (x:tM P w H h) (k:∀b u,h.get? b=some u->h'.get? b=some u):tM P w H h':=fun a o e=>
 (x a o e).stay (fun b u _ q=>k b u q) (fun _ q=>q) fun _ _ q=>q
theorem tM.laid (x:tM P w H h) (k:∀b u,h.get? b=some u->h'.get? b=some u) (hp:h.objs.size<=a) (new:dO P w (upd H a o) h' a o):tM P w (upd H a o) h':=fun b u e=>by
 have hn:=x.fresh hp;by_cases hb:b=a
 ·subst hb;rw[ak] at e;cases e;exact new
 ·rw[aB hb] at e;exact(x b u e).stay (fun c v _ q=>k c v q) (fun c q=>by rw[aB (aF q hn)];exact q) fun c xs q=>by rw[aB (aF q hn)];exact q
end
noncomputable def Rd(H:Hp)(a:Addr)(u:HO):Prop:=H a=some u\/∃o,H a=some (.frz o u)
theorem Rd.ok {P:Program} {w:World} {H:Hp} {h:Heap} {a:Addr} {u:HO} (r:Rd H a u) (x:tM P w H h):dO P w H h a u:=by
 rcases r with r | ⟨o,r⟩
 ·exact x a u r
 ·obtain⟨_,q⟩:=x a _ r;exact q
noncomputable def QC:Option HO->Prop
 | some (.lst _)=>True
 | some (.dK _)=>True
 | some (.dT _)=>True
 | some (.set _ _)=>True
 | some (.ins _ _ _)=>True
 | some (.ext _)=>True
 | _=>False
section
variable{P:Program}{w:World}{H:Hp}{h h':Heap}{x e:Addr}{o':HO}
theorem tM.write (ok:tM P w H h) (mu:QC (H x)) (he:e=x\/H e=some (.own x)) (k:∀b u,b≠e->h.get? b=some u->h'.get? b=some u) (heo:∃u,h'.get? e=some u)
  (new:dO P w (upd H x o') h' x o'):tM P w (upd H x o') h':=fun b u q=>by
 have nown:∀c y,H c=some (.own y)->c≠x:=fun c y r z=>by subst z;rw[r] at mu;exact mu
 have ntup:∀c xs,H c=some (.tup xs)->c≠x:=fun c xs r z=>by subst z;rw[r] at mu;exact mu
 by_cases hb:b=x
 ·subst hb;rw[ak] at q;cases q;exact new
 ·rw[aB hb] at q;by_cases hbe:b=e
  ·have q':H b=some (.own x):=by
    rcases he with z | z
    ·exact absurd (hbe.trans z) hb
    ·rw[hbe];exact z
   rw[q] at q';cases q';obtain⟨v,hv⟩:=heo;exact⟨v,by rw[hbe];exact hv⟩
  ·refine(ok b u q).stay (fun c v hc r=>k c v ?_ r) (fun c r=>by rw[aB (nown c b r)];exact r) fun c xs r=>by rw[aB (ntup c xs r)];exact r
   rcases hc with rfl | hc
   ·exact hbe
   ·rintro rfl;rcases he with z | z
    ·exact nown c b hc z
    ·rw[hc] at z;cases z;exact hb Z
end
structure Un(fs ex:List Addr)(H H':Hp)(h h':Heap):Prop where
 keep:∀b o,h.get? b=some o->H b=none->b∉fs->b∉ex->h'.get? b=some o
 slot:∀b o,h.get? b=some o->H b=none->b∈fs->b∉ex->∃sl,h'.get? b=some {o with slots:=sl}
 free:∀b o,h.get? b=some o->H b=none->b∉ex->H' b=none
 there:∀b o,h.get? b=some o->b∉ex->∃o',h'.get? b=some o'
 tups:∀b xs,H b=some (.tup xs)->H' b=some (.tup xs)
 frzs:∀b o u,H b=some (.frz o u)->H' b=some (.frz o u)
 tbls:∀b ps,H b=some (.tbl ps)->∃more,H' b=some (.tbl (ps++more))
section
variable{fs fs' ex ex':List Addr}{H H1 H2:Hp}{h h1 h2 h':Heap}{a x e:Addr}{o:HO}
theorem Un.any (u:Un fs ex H H1 h h1) {b:Addr} {ob:Obj} (q:h.get? b=some ob) (n:H b=none) (hx:b∉ex):∃sl,h1.get? b=some {ob with slots:=sl}:=by
 by_cases hb:b∈fs
 ·exact u.slot b ob q n hb hx
 ·exact⟨ob.slots,u.keep b ob q n hb hx⟩
theorem Un.kept (k:∀b u,h.get? b=some u->h'.get? b=some u):Un fs ex H H h h':=
 ⟨fun b ob q _ _ _=>k b ob q,fun b ob q _ _ _=>⟨ob.slots,k b ob q⟩,fun _ _ _ n _=>n,fun b ob q _=>⟨ob,k b ob q⟩,fun _ _ q=>q,fun _ _ _ q=>q,fun _ ps q=>⟨#[],by rw[q];simp⟩⟩
theorem Un.refl:Un fs ex H H h h:=Un.kept fun _ _ q=>q
theorem Un.laid (k:∀b u,h.get? b=some u->h'.get? b=some u) (hp:h.objs.size<=a) (hn:H a=none):Un fs ex H (upd H a o) h h' where
 keep:=fun b u q _ _ _=>k b u q
 slot:=fun b u q _ _ _=>⟨u.slots,k b u q⟩
 free:=fun b u q n _=>by rw[aB (Nat.ne_of_lt (Nat.lt_of_lt_of_le (Heap.lt_size q) hp))];exact n
 there:=fun b u q _=>⟨u,k b u q⟩
 tups:=fun b xs q=>by rw[aB (aF q hn)];exact q
 frzs:=fun b u xs q=>by rw[aB (aF q hn)];exact q
 tbls:=fun b ps q=>⟨#[],by rw[aB (aF q hn),q];simp⟩
theorem Un.write (mu:QC (H x)) (he:e=x\/H e=some (.own x)) (k:∀b u,b≠e->h.get? b=some u->h'.get? b=some u) (heo:∃u,h'.get? e=some u):Un fs ex H (upd H x o) h h':=by
 have hx:∀b,H b=none->b≠x:=fun b n z=>by subst z;rw[n] at mu;exact mu
 have hb:∀b,H b=none->b≠e:=fun b n z=>by
  subst z;rcases he with r | r
  ·exact hx b n r
  ·rw[n] at r;cases r
 have hm:∀b u,H b=some u->¬QC (some u)->b≠x:=fun b u q nm z=>by subst z;rw[q] at mu;exact nm mu
 refine⟨fun b u q n _ _=>k b u (hb b n) q,fun b u q n _ _=>⟨u.slots,k b u (hb b n) q⟩,fun b u q n _=>by rw[aB (hx b n)];exact n,fun b u q _=>?_,
  fun b xs q=>by rw[aB (hm b _ q fun z=>z)];exact q,fun b u xs q=>by rw[aB (hm b _ q fun z=>z)];exact q,fun b ps q=>⟨#[],by rw[aB (hm b _ q fun z=>z),q];simp⟩⟩
 by_cases hbe:b=e
 ·subst hbe;exact heo
 ·exact⟨u,k b u hbe q⟩
end
noncomputable def FW(h:Heap)(H:Hp):List Addr:=(List.range h.objs.size).filter fun a=>(H a).isSome
noncomputable def wy(h:Heap)(H:Hp):Heap:=W.hideAll h (FW h H)
theorem Gq(h:Heap)(H:Hp):(wy h H).objs.size=h.objs.size:=W.hideAll_size _ _
theorem Io{h:Heap}{H:Hp}{b:Addr}{o:Obj}(e:h.get? b=some o)(n:H b=none):(wy h H).get? b=some o:=
 W.hideAll_get _ e fun hm=>by have q:(H b).isSome=true:=(List.mem_filter.mp hm).2;rw[n] at q;simp at q
theorem J2{h:Heap}{H:Hp}{b:Addr}{o:Obj}(e:(wy h H).get? b=some o):h.get? b=some o/\H b=none:=by
 have e':h.get? b=some o:=W.of_hideAll (FW h H) e;refine⟨e',?_⟩;cases q:H b with
 | none=>rfl
 | some x=>
  have hm:b∈FW h H:=List.mem_filter.mpr ⟨List.mem_range.mpr (Heap.lt_size e'),by simp[q]⟩;have z:(wy h H).get? b=none:=W.hideAll_none (FW h H) hm;rw[z] at e;cases e
structure Mod(K:W.Frag)(mg:Str->Option Value)(base:Heap):Prop where
 kin:K.In base
 glob:base.Ns mainGlobals mg
 blt:∃mb,base.Ns builtinsNs mb/\∀x:Str,x≠"__name__"->mb x=bootBuiltins x
 nolimit:base.NoLimit
structure Cx where
 prog:Program
 w:World
 K:W.Frag
 mg:Str->Option Value
 base:Heap
 A:Around
 N:List Str
 s₀:Shared
 H₀:Hp
 env:Env
 outer:List Env
 stack:List Env
 ex:List Addr
 fn:Str->Bool
 calm:Bool
 pn:List (Addr×Obj)
 xe:Value->Shared->Prop
noncomputable def frs(l:List Env):List Addr:=l.filterMap (·.frame)
noncomputable abbrev Cx.fs (X:Cx):List Addr:=frs X.outer
noncomputable def Mr(sc:Scope)(x:Str):Prop:=sc.names.lookup x=some .local\/sc.names.lookup x=some .cell\/sc.names.lookup x=some .free
noncomputable def Loc(sc:Scope)(x:Str):Prop:=sc.names.lookup x=some .local\/sc.names.lookup x=some .cell
noncomputable def Look(env:Env)(h:Heap)(m:Str->Option Value)(x:Str)(u:Value):Prop:=
 (env.kindOf x=some .local/\m x=some u)\/((env.kindOf x=some .cell\/env.kindOf x=some .free)/\∃c,env.cells.lookup x=some c/\h.IsCell c (some u))
structure Cx.Ok (X:Cx):Prop where
 mod:Mod X.K X.mg X.base
 kind:X.env.scope.kind= .function
 glob:X.env.globals=mainGlobals
 blt:X.env.builtins=builtinsNs
 above:X.s₀.heap.objs.size<=X.env.locals
 inj:∀x y c,X.env.cells.lookup x=some c->X.env.cells.lookup y=some c->x=y
 has:∀x,(X.env.kindOf x=some .cell\/X.env.kindOf x=some .free)->∃c,X.env.cells.lookup x=some c
 cab:∀x c,X.fn x=true->X.env.cells.lookup x=some c->X.s₀.heap.objs.size<=c
 hd:X.calm=true->X.A.handled=none
 frames:X.A.frames=some X.stack
 stk:X.stack=X.outer\/(X.stack=X.env::X.outer/\X.env.frame=some X.env.locals)
 exf:∀b∈X.ex,b≠X.env.locals/\∀x c,X.env.cells.lookup x=some c->c≠b
 bs:∀b o,X.base.get? b=some o->X.s₀.heap.get? b=some o/\X.H₀ b=none
 bsz:X.base.objs.size<=X.s₀.heap.objs.size
 noex:∀b o,X.base.get? b=some o->b∉X.ex
 exfs:∀b∈X.ex,b∉X.fs
 funs:X.s₀.heap.FunFrames X.base X.outer
 frf:∀b∈X.fs,X.H₀ b=none
structure Inv(X:Cx)(pins:List (Addr×Obj))(σ:List (Option V))(H:Hp)(s:Shared):Prop where
 ok:X.Ok
 os:s.os=X.s₀.os
 bare:AllBare s.gens
 base:Un X.fs X.ex X.H₀ H X.s₀.heap s.heap
 loc:∃m,s.heap.Ns X.env.locals m/\∀(i:Nat)(x:Str)(v:V),X.N[i]? =some x->σ[i]? =some (some v)->Mr X.env.scope x->∃u,RelV v u/\Look X.env s.heap m x u
 cell:∀x c,X.env.cells.lookup x=some c->∃v,s.heap.IsCell c v
 free:H X.env.locals=none
 freeC:∀x c,X.env.cells.lookup x=some c->H c=none
 pin:∀p∈X.pn++pins,s.heap.get? p.1=some p.2/\H p.1=none/\p.1≠X.env.locals/\p.1∉X.fs/\∀v,p.2.data≠ .cell v
 hok:tM X.prog X.w H s.heap
 len:σ.length=X.N.length
section
variable{X:Cx}{pins:List (Addr×Obj)}{σ:List (Option V)}{H H':Hp}{s:Shared}{h':Heap}
theorem Cx.Ok.nofr (ok:X.Ok) {b:Addr} {o:Obj} (e:X.base.get? b=some o):b∉X.fs:=fun hb=>by have:=(ok.funs.mem hb).1;rw[e] at this;cases this
theorem Inv.bs (I:Inv X pins σ H s):∀b o,X.base.get? b=some o->s.heap.get? b=some o/\H b=none:=fun b o e=>
 ⟨I.base.keep b o (I.ok.bs b o e).1 (I.ok.bs b o e).2 (I.ok.nofr e) (I.ok.noex b o e),I.base.free b o (I.ok.bs b o e).1 (I.ok.bs b o e).2 (I.ok.noex b o e)⟩
theorem Inv.bk (I:Inv X pins σ H s):∀b o,X.base.get? b=some o->s.heap.get? b=some o:=fun b o e=>(I.bs b o e).1
theorem Inv.mod (I:Inv X pins σ H s):Mod X.K X.mg X.base:=I.ok.mod
theorem Inv.kIn (I:Inv X pins σ H s):X.K.In s.heap:=I.ok.mod.kin.keeps I.bk
theorem Inv.lt (I:Inv X pins σ H s):X.env.locals<s.heap.objs.size:=let⟨_,hn,_⟩:=I.loc;hn.lt
theorem Inv.sz (I:Inv X pins σ H s):X.s₀.heap.objs.size<=s.heap.objs.size:=Nat.le_trans I.ok.above (Nat.le_of_lt I.lt)
theorem Inv.nofs (I:Inv X pins σ H s) {a:Addr} (h:s.heap.objs.size<=a):a∉X.fs:=fun hb=>by obtain⟨_,o,ho,_⟩:=I.ok.funs.mem hb;exact absurd (Nat.lt_of_lt_of_le (Heap.lt_size ho) (Nat.le_trans I.sz h)) (Nat.lt_irrefl _)
theorem Inv.cne (I:Inv X pins σ H s):∀x c,X.env.cells.lookup x=some c->c≠X.env.locals:=fun x c e z=>by obtain⟨v,o,ho,hd⟩:=I.cell x c e;obtain⟨m,⟨o',es,ep,ho',hd',_⟩,_⟩:=I.loc;rw[z,ho'] at ho;cases ho;rw[hd'] at hd;cases hd
theorem Inv.funs (I:Inv X pins σ H s):s.heap.FunFrames X.base X.outer:=by
 have all:∀(l:List Env),(∀b∈frs l,b∈X.fs)->X.s₀.heap.FunFrames X.base l->s.heap.FunFrames X.base l:=by
  intro l;induction l with
  | nil=>intro _ _;trivial
  | cons env r ih=>
   intro hs hl;obtain⟨hk,⟨L,o,hf,hn,ho,hd⟩,hr⟩:=hl;have hL:L∈X.fs:=hs L (by unfold frs;rw[List.filterMap_cons,hf];exact List.mem_cons_self);obtain⟨sl,e⟩:=I.base.slot L o ho (I.ok.frf L hL) hL fun z=>I.ok.exfs L z hL;exact⟨hk,⟨L,_,hf,hn,e,hd⟩,ih (fun b hb=>hs b (by unfold frs;rw[List.filterMap_cons,hf];exact List.mem_cons_of_mem _ hb)) hr⟩
 exact all X.outer (fun _ hb=>hb) I.ok.funs
theorem Inv.stack (I:Inv X pins σ H s):s.heap.FunFrames X.base X.stack:=by
 rcases I.ok.stk with e | ⟨e,hf⟩
 ·rw[e];exact I.funs
 ·rw[e];obtain⟨m,hn,_⟩:=I.loc;refine .cons (by rw[I.ok.kind];decide) hf hn ?_ I.funs;exact Heap.get?_none_of_le (Nat.le_trans I.ok.bsz I.ok.above)
theorem Inv.stkSub (I:Inv X pins σ H s):∀b∈frs X.stack,b∈X.env.locals::X.fs:=fun b hb=>by
 rcases I.ok.stk with e | ⟨e,hf⟩
 ·rw[e] at hb;exact List.mem_cons_of_mem _ hb
 ·rw[e] at hb;unfold frs at hb;rw[List.filterMap_cons,hf] at hb;exact hb
theorem Inv.stkFree (I:Inv X pins σ H s):∀b∈frs X.stack,H b=none:=fun b hb=>by
 rcases List.mem_cons.mp (I.stkSub b hb) with e | hb
 ·rw[e];exact I.free
 ·obtain⟨_,o,ho,_⟩:=I.ok.funs.mem hb;exact I.base.free b o ho (I.ok.frf b hb) fun z=>I.ok.exfs b z hb
theorem Inv.step {g':Array GenState} {t':Nat} {d':Drawn} {ch:List Addr} (I:Inv X pins σ H s)
  (hch:∀b∈ch,(b∈X.ex\/X.s₀.heap.objs.size<=b)/\b≠X.env.locals/\(∀x c,X.env.cells.lookup x=some c->c≠b)/\∀p∈X.pn++pins,p.1≠b)
  (keep:∀b o,b≠X.env.locals->b∉X.fs->b∉ch->s.heap.get? b=some o->H b=none->h'.get? b=some o)
  (slot:∀b o,b≠X.env.locals->b∈X.fs->b∉ch->s.heap.get? b=some o->H b=none->∃sl,h'.get? b=some {o with slots:=sl}) (free:∀b o,b∉ch->s.heap.get? b=some o->H b=none->H' b=none)
  (there:∀b o,b∉ch->s.heap.get? b=some o->∃o',h'.get? b=some o')
  (tups:∀b xs,H b=some (.tup xs)->H' b=some (.tup xs)) (frzs:∀b o u,H b=some (.frz o u)->H' b=some (.frz o u)) (tbls:∀b ps,H b=some (.tbl ps)->∃more,H' b=some (.tbl (ps++more)))
  (ns:∀m,s.heap.Ns X.env.locals m->h'.Ns X.env.locals m) (hok:tM X.prog X.w H' h') (hg:AllBare g'):
  Inv X pins σ H' {s with heap:=h',gens:=g',drawn:=d',toks:=t'}:=by
 have neL:∀b o,X.s₀.heap.get? b=some o->b≠X.env.locals:=fun b o e=>Nat.ne_of_lt (Nat.lt_of_lt_of_le (Heap.lt_size e) I.ok.above)
 have neC:∀b o,X.s₀.heap.get? b=some o->b∉X.ex->b∉ch:=fun b o e hx hb=>by
  rcases(hch b hb).1 with z | z
  ·exact hx z
  ·exact absurd (Nat.lt_of_lt_of_le (Heap.lt_size e) z) (Nat.lt_irrefl _)
 have cellK:∀x c,X.env.cells.lookup x=some c->∀v,s.heap.IsCell c v->h'.IsCell c v:=fun x c e v ⟨o,ho,hd⟩=>by
  have nch:c∉ch:=fun z=>(hch c z).2.2.1 x c e Z;by_cases hc:c∈X.fs
  ·obtain⟨sl,q⟩:=slot c o (I.cne x c e) hc nch ho (I.freeC x c e);exact⟨_,q,hd⟩
  ·exact⟨o,keep c o (I.cne x c e) hc nch ho (I.freeC x c e),hd⟩
 refine⟨I.ok,I.os,hg,⟨fun b o e n hb hx=>?_,fun b o e n hb hx=>?_,fun b o e n hx=>?_,fun b o e hx=>?_,fun b xs e=>tups b xs (I.base.tups b xs e),fun b o xs e=>frzs b o xs (I.base.frzs b o xs e),fun b ps e=>?_⟩,?_,fun x c e=>?_,?_,fun x c e=>?_,fun p hp=>?_,hok,I.len⟩
 ·exact keep b o (neL b o e) hb (neC b o e hx) (I.base.keep b o e n hb hx) (I.base.free b o e n hx)
 ·obtain⟨sl,e1⟩:=I.base.slot b o e n hb hx;obtain⟨sl',e2⟩:=slot b _ (neL b o e) hb (neC b o e hx) e1 (I.base.free b o e n hx);exact⟨sl',e2⟩
 ·obtain⟨o',e1⟩:=I.base.there b o e hx;exact free b o' (neC b o e hx) e1 (I.base.free b o e n hx)
 ·obtain⟨o',e1⟩:=I.base.there b o e hx;exact there b o' (neC b o e hx) e1
 ·obtain⟨m1,e1⟩:=I.base.tbls b ps e;obtain⟨m2,e2⟩:=tbls b _ e1;exact⟨m1++m2,by rw[e2,Array.append_assoc]⟩
 ·obtain⟨m,hn,hl⟩:=I.loc;refine⟨m,ns m hn,fun i x v e1 e2 e3=>?_⟩;obtain⟨u,r,l⟩:=hl i x v e1 e2 e3;refine⟨u,r,?_⟩;rcases l with l | ⟨k,c,e,z⟩
  ·exact .inl l
  ·exact .inr ⟨k,c,e,cellK x c e _ z⟩
 ·obtain⟨v,z⟩:=I.cell x c e;exact⟨v,cellK x c e v z⟩
 ·obtain⟨m,⟨o,_,_,ho,_⟩,_⟩:=I.loc;exact free _ o (fun z=>(hch _ z).2.1 Z) ho I.free
 ·obtain⟨v,o,ho,hd⟩:=I.cell x c e;exact free c o (fun z=>(hch c z).2.2.1 x c e Z) ho (I.freeC x c e)
 ·obtain⟨e,n,ne,nf,d⟩:=I.pin p hp;have nch:p.1∉ch:=fun z=>(hch p.1 z).2.2.2 p hp Z;exact⟨keep p.1 p.2 ne nf nch e n,free p.1 p.2 nch e n,ne,nf,d⟩
theorem Inv.un {t':Nat} (I:Inv X pins σ H s) (u:Un X.fs [] H H' s.heap h') (hok:tM X.prog X.w H' h'):Inv X pins σ H' {s with heap:=h',toks:=t'}:=by
 obtain⟨m,⟨o,es,ep,ho,r⟩,_⟩:=id I.loc;obtain⟨sl,hL⟩:=u.any ho I.free (by simp)
 exact I.step (g':=s.gens) (d':=s.drawn) (ch:=[]) (fun _ z=>nomatch z) (fun b o _ hb _ e n=>u.keep b o e n hb (by simp)) (fun b o _ hb _ e n=>u.slot b o e n hb (by simp)) (fun b o _ e n=>u.free b o e n (by simp)) (fun b o _ e=>u.there b o e (by simp)) u.tups u.frzs u.tbls (fun m' hm=>by obtain⟨o',es',ep',ho',r'⟩:=hm;rw[ho] at ho';cases ho';exact⟨_,es',ep',hL,r'⟩) hok I.bare
theorem Inv.call {g':Array GenState} {t':Nat} {d':Drawn} {ch:List Addr} (I:Inv X pins σ H s) (u:Un (frs X.stack) ch H H' s.heap h') (hok:tM X.prog X.w H' h') (hg:AllBare g')
  (hch:∀b∈ch,(b∈X.ex\/X.s₀.heap.objs.size<=b)/\b≠X.env.locals/\(∀x c,X.env.cells.lookup x=some c->c≠b)/\∀p∈X.pn++pins,p.1≠b):
  Inv X pins σ H' {s with heap:=h',gens:=g',drawn:=d',toks:=t'}:=by
 obtain⟨m,⟨o,es,ep,ho,r⟩,_⟩:=id I.loc;obtain⟨sl,hL⟩:=u.any ho I.free fun z=>(hch _ z).2.1 Z
 exact I.step (ch:=ch) hch (fun b o hL hb hc e n=>u.keep b o e n (fun z=>(List.mem_cons.mp (I.stkSub b z)).elim hL hb) hc) (fun b o _ _ hc e n=>u.any e n hc) (fun b o hc e n=>u.free b o e n hc) (fun b o hc e=>u.there b o e hc) u.tups u.frzs u.tbls (fun m' hm=>by obtain⟨o',es',ep',ho',r'⟩:=hm;rw[ho] at ho';cases ho';exact⟨_,es',ep',hL,r'⟩) hok hg
theorem Inv.turned {t':Nat} {it:Addr} (I:Inv X pins σ H s) (k:∀b o,b≠it->s.heap.get? b=some o->h'.get? b=some o) (hn:H it=none) (hL:it≠X.env.locals)
  (h1:it∈X.ex\/X.s₀.heap.objs.size<=it) (h2:∀x c,X.env.cells.lookup x=some c->c≠it) (h3:∀p∈X.pn++pins,p.1≠it):Inv X pins σ H {s with heap:=h',toks:=t'}:=by
 have nit:∀b u,H b=some u->b≠it:=fun b u e z=>by rw[z,hn] at e;cases e
 refine I.step (g':=s.gens) (d':=s.drawn) (ch:=[it]) (fun b hb=>?_) (fun b o _ _ hc e _=>k b o (fun z=>hc (by simp[z])) e) (fun b o _ _ hc e _=>⟨o.slots,k b o (fun z=>hc (by simp[z])) e⟩) (fun _ _ _ _ n=>n)
  (fun b o hc e=>⟨o,k b o (fun z=>hc (by simp[z])) e⟩) (fun _ _ e=>e) (fun _ _ _ e=>e) (fun b ps e=>⟨#[],by rw[e];simp⟩) (fun m hm=>?_) (fun b u e=>?_) I.bare
 ·have e:b=it:=by simpa using hb
  subst e;exact⟨h1,hL,h2,h3⟩
 ·obtain⟨o,es,ep,ho,r⟩:=hm;exact⟨o,es,ep,k _ o (Ne.symm hL) ho,r⟩
 ·refine(I.hok b u e).stay (fun c v hc q=>k c v ?_ q) (fun _ q=>q) fun _ _ q=>q;rcases hc with z | z
  ·rw[z];exact nit b u e
  ·exact nit c _ z
theorem Inv.tok (I:Inv X pins σ H s) (t:Nat):Inv X pins σ H {s with toks:=t}:=I.un (h':=s.heap) (t':=t) Un.refl I.hok
theorem Inv.kept {t':Nat} (I:Inv X pins σ H s) (k:∀b u,s.heap.get? b=some u->h'.get? b=some u):Inv X pins σ H {s with heap:=h',toks:=t'}:=I.un (Un.kept k) (I.hok.kept k)
theorem Inv.laid {a:Addr} {o:HO} {t':Nat} (I:Inv X pins σ H s) (k:∀b u,s.heap.get? b=some u->h'.get? b=some u) (hp:s.heap.objs.size<=a) (new:dO X.prog X.w (upd H a o) h' a o):
  Inv X pins σ (upd H a o) {s with heap:=h',toks:=t'}:=I.un (Un.laid k hp (I.hok.fresh hp)) (I.hok.laid k hp new)
theorem Inv.write {x e:Addr} {o:HO} {t':Nat} (I:Inv X pins σ H s) (mu:QC (H x)) (he:e=x\/H e=some (.own x)) (k:∀b u,b≠e->s.heap.get? b=some u->h'.get? b=some u) (heo:∃u,h'.get? e=some u)
  (new:dO X.prog X.w (upd H x o) h' x o):Inv X pins σ (upd H x o) {s with heap:=h',toks:=t'}:=I.un (Un.write mu he k heo) (I.hok.write mu he k heo new)
theorem Inv.pins_of {pins':List (Addr×Obj)} (I:Inv X pins σ H s) (h:∀p∈pins',s.heap.get? p.1=some p.2/\H p.1=none/\p.1≠X.env.locals/\p.1∉X.fs/\∀v,p.2.data≠ .cell v):Inv X pins' σ H s:=
 ⟨I.ok,I.os,I.bare,I.base,I.loc,I.cell,I.free,I.freeC,fun p hp=>(List.mem_append.mp hp).elim (fun z=>I.pin p (List.mem_append_left _ z)) (h p),I.hok,I.len⟩
theorem uY{N:List Str}(hN:N.Nodup){i j:Nat}{x:Str}(a:N[i]? =some x)(b:N[j]? =some x):i=j:=by obtain⟨h1,e1⟩:=List.getElem?_eq_some_iff.mp a;obtain⟨h2,e2⟩:=List.getElem?_eq_some_iff.mp b;exact(List.getElem_inj hN).mp (e1.trans e2.symm)
theorem xO{M : Model}{A : Around}{E : Value -> Shared -> Prop}{i : Nat}{x : Str}{v : V}{u : Value}{Q : Unit -> Shared -> Prop}(I : Inv X pins σ H s)(hN : X.N.Nodup)(hi : X.N[i]? = some x)(hx : Loc X.env.scope x)(r : RelV v u)(h:∀s',Inv X pins (σ.set i (some v)) H s'->(∃a,Heap.SameBut a s.heap s'.heap/\(a=X.env.locals\/X.env.cells.lookup x=some a))->Q () s')(hf:X.fn x=true\/X.env.scope.names.lookup x=some .local:=by first | exact .inl Z | exact .inr Z | assumption):wpAny M A (storeName X.env x u) Q E s:=by
  obtain⟨m,hn,hl⟩:=id I.loc;have hcls:(X.env.scope.kind== .class||(X.env.scope.kind== .module&&X.env.locals !=X.env.globals))=false:=by rw[I.ok.kind];rfl
  have hiσ:i<σ.length:=by rw[I.len];exact(List.getElem?_eq_some_iff.mp hi).1
  have cne:=I.cne
  have tracked:∀{a:Addr}{h':Heap},(∃o,s.heap.get? a=some o/\H a=none)->Heap.SameBut a s.heap h'->tM X.prog X.w H h':=fun{a h'} ha hs b ob e=>by
    obtain⟨_,_,hfree⟩:=ha;refine(I.hok b ob e).stay (fun c w' hc q=>(hs.2 c ?_).trans q) (fun _ q=>q) fun _ _ q=>q;rintro rfl;rcases hc with rfl | hc
    · rw[hfree] at e;cases e
    · rw[hfree] at hc;cases hc
  rcases hx with hk | hk
  · refine wpAny_storeName_local hk hn (fun h' hn' hs=>?_) hcls;obtain⟨oL,_,_,hoL,_⟩:=id hn;refine h _ ⟨I.ok,I.os,I.bare,⟨fun b o e n hb hx=>?_,fun b o e n hb hx=>?_,I.base.free,fun b o e hx=>?_,I.base.tups,I.base.frzs,I.base.tbls⟩,⟨_,hn',fun j y v' e1 e2 e3=>?_⟩,fun y c e=>?_,I.free,I.freeC,fun p hp=>?_,tracked ⟨oL,hoL,I.free⟩ hs,by simpa using I.len⟩ ⟨_,hs,.inl Z⟩
    · exact(hs.2 b (Nat.ne_of_lt (Nat.lt_of_lt_of_le (Heap.lt_size e) I.ok.above))).trans (I.base.keep b o e n hb hx)
    · obtain⟨sl,e1⟩:=I.base.slot b o e n hb hx;exact⟨sl,(hs.2 b (Nat.ne_of_lt (Nat.lt_of_lt_of_le (Heap.lt_size e) I.ok.above))).trans e1⟩
    · obtain⟨o',e1⟩:=I.base.there b o e hx;exact⟨o',(hs.2 b (Nat.ne_of_lt (Nat.lt_of_lt_of_le (Heap.lt_size e) I.ok.above))).trans e1⟩
    · by_cases hj:j=i
      · subst hj;rw[hi] at e1;cases e1;rw[List.getElem?_set_self hiσ] at e2;cases e2;exact⟨u,r,.inl ⟨hk,by simp⟩⟩
      · rw[List.getElem?_set_ne (Ne.symm hj)] at e2;obtain⟨u',r',q⟩:=hl j y v' e1 e2 e3;refine⟨u',r',?_⟩;rcases q with⟨k,e⟩ | ⟨k,c,e,z⟩
        · refine .inl ⟨k,?_⟩;have:y≠x:=fun e=>hj (uY hN e1 (e▸hi));simp[this,e]
        · exact .inr ⟨k,c,e,z.sameBut hs (cne y c e)⟩
    · obtain⟨w',z⟩:=I.cell y c e;exact⟨w',z.sameBut hs (cne y c e)⟩
    · obtain⟨e,n,ne,nf,d⟩:=I.pin p hp;exact⟨(hs.2 p.1 ne).trans e,n,ne,nf,d⟩
  · have hfn : X.fn x = true := by
      rcases hf with z | z
      · exact z
      · rw[z] at hk;cases hk
    obtain⟨c,hc⟩:=I.ok.has x (.inl hk);obtain⟨w',z⟩:=I.cell x c hc;refine wpAny_storeName_cell I.ok.kind hk hc z (fun h' hc' hs=>?_);obtain⟨oc,hoc,hocd⟩:=id z;refine h {s with heap:=h'} ⟨I.ok,I.os,I.bare,⟨fun b o e n hb hx=>?_,fun b o e n hb hx=>?_,I.base.free,fun b o e hx=>?_,I.base.tups,I.base.frzs,I.base.tbls⟩,⟨m,hn.sameBut hs (Ne.symm (cne x c hc)),fun j y v' e1 e2 e3=>?_⟩,fun y c' e=>?_,I.free,I.freeC,fun p hp=>?_,tracked ⟨oc,hoc,I.freeC x c hc⟩ hs,by simpa using I.len⟩ ⟨c,hs,.inr hc⟩
    · exact(hs.2 b (Nat.ne_of_lt (Nat.lt_of_lt_of_le (Heap.lt_size e) (I.ok.cab x c hfn hc)))).trans (I.base.keep b o e n hb hx)
    · obtain⟨sl,e1⟩:=I.base.slot b o e n hb hx;exact⟨sl,(hs.2 b (Nat.ne_of_lt (Nat.lt_of_lt_of_le (Heap.lt_size e) (I.ok.cab x c hfn hc)))).trans e1⟩
    · obtain⟨o',e1⟩:=I.base.there b o e hx;exact⟨o',(hs.2 b (Nat.ne_of_lt (Nat.lt_of_lt_of_le (Heap.lt_size e) (I.ok.cab x c hfn hc)))).trans e1⟩
    · by_cases hj:j=i
      · subst hj;rw[hi] at e1;cases e1;rw[List.getElem?_set_self hiσ] at e2;cases e2;exact⟨u,r,.inr ⟨.inl hk,c,hc,hc'⟩⟩
      · rw[List.getElem?_set_ne (Ne.symm hj)] at e2;obtain⟨u',r',q⟩:=hl j y v' e1 e2 e3;refine⟨u',r',?_⟩;rcases q with q | ⟨k,c',e,z'⟩
        · exact .inl q
        · refine .inr ⟨k,c',e,z'.sameBut hs ?_⟩;rintro rfl;exact hj (uY hN e1 (I.ok.inj _ _ _ e hc▸hi))
    · by_cases hcc:c'=c
      · subst hcc;exact⟨_,hc'⟩
      · obtain⟨w2,z2⟩:=I.cell y c' e;exact⟨w2,z2.sameBut hs hcc⟩
    · obtain⟨e,n,ne,nf,d⟩:=I.pin p hp;refine⟨(hs.2 p.1 ?_).trans e,n,ne,nf,d⟩;intro q;rw[q,hoc] at e;have q':oc=p.2:=Option.some.inj e;exact d w' (by rw[<-q'];exact hocd)
theorem uM{M:Model}{A:Around}{E:Value->Shared->Prop}{i:Nat}{x:Str}{v:V}{u:Value}{Q:Unit->Shared->Prop}(I:Inv X pins σ H s)(hN:X.N.Nodup)(hi:X.N[i]? =some x)(hx:Loc X.env.scope x)(r:RelV v u)(h:∀s',Inv X pins (σ.set i (some v)) H s'->Q () s')(hf:X.fn x=true\/X.env.scope.names.lookup x=some .local:=by first | exact .inl Z | exact .inr Z | assumption):wpAny M A (storeName X.env x u) Q E s:=
 xO I hN hi hx r (fun s' I' _=>h s' I') hf
theorem Inv.call' {s':Shared} {ch:List Addr} (I:Inv X pins σ H s) (ho:s'.os=s.os) (u:Un (frs X.stack) ch H H' s.heap s'.heap) (hok:tM X.prog X.w H' s'.heap) (hg:AllBare s'.gens)
  (hch:∀b∈ch,(b∈X.ex\/X.s₀.heap.objs.size<=b)/\b≠X.env.locals/\(∀x c,X.env.cells.lookup x=some c->c≠b)/\∀p∈X.pn++pins,p.1≠b):Inv X pins σ H' s':=by
 obtain⟨h',g',d',t',o'⟩:=s';have e:o'=s.os:=ho;subst e;exact I.call (g':=g') (t':=t') (d':=d') u hok hg hch
end
noncomputable abbrev XK:=Value->Option Addr->Hp->Prop
noncomputable abbrev St:=List (Option V)
noncomputable abbrev VK:=V->Hp->Prop
noncomputable abbrev TE:=St->Hp->VK->Prop
noncomputable abbrev TT:=St->Hp->(Bool->Hp->Prop)->Prop
noncomputable abbrev TA:=St->Hp->(List V->Hp->Prop)->Prop
structure Ends where
 nx:St->Hp->Prop
 rt:VK
 bk:St->Hp->Prop:=fun _ _=>False
 ct:St->Hp->Prop:=fun _ _=>False
noncomputable abbrev TS:=Ends->St->Hp->Prop
noncomputable def EP(X:Cx)(pins:List (Addr×Obj))(σ:St)(Q:VK)(u:Value)(s':Shared):Prop:=∃v H',Inv X pins σ H' s'/\RelV v u/\Q v H'
noncomputable def TP(X:Cx)(pins:List (Addr×Obj))(σ:St)(Q:Bool->Hp->Prop)(b:Bool)(s':Shared):Prop:=∃H',Inv X pins σ H' s'/\Q b H'
noncomputable def AP(X:Cx)(pins:List (Addr×Obj))(σ:St)(Q:List V->Hp->Prop)(us:List Value)(s':Shared):Prop:=∃vs H',Inv X pins σ H' s'/\Vals vs us/\Q vs H'
noncomputable def SP(X:Cx)(pins:List (Addr×Obj))(D:Ends)(f:Flow)(s':Shared):Prop:=
 match f with
 | .next=>∃σ' H',Inv X pins σ' H' s'/\D.nx σ' H'
 | .brk=>∃σ' H',Inv X pins σ' H' s'/\D.bk σ' H'
 | .cont=>∃σ' H',Inv X pins σ' H' s'/\D.ct σ' H'
 | .ret u=>∃v σ' H',Inv X pins σ' H' s'/\RelV v u/\D.rt v H'
noncomputable def PE(X:Cx)(e:Expr)(t:TE):Prop:=
 ∀(pins:List (Addr×Obj))(s:Shared)(σ:St)(H:Hp)(Q:VK),Inv X pins σ H s->t σ H Q->wpAny (model X.prog X.w) X.A (eval e X.env) (EP X pins σ Q) X.xe s
noncomputable def PT(X:Cx)(e:Expr)(t:TT):Prop:=
 ∀(pins:List (Addr×Obj))(s:Shared)(σ:St)(H:Hp)(Q:Bool->Hp->Prop),Inv X pins σ H s->t σ H Q->wpAny (model X.prog X.w) X.A (isTrue e X.env (eval e X.env)) (TP X pins σ Q) X.xe s
noncomputable def PW(X:Cx)(e:Expr)(t:TT):Prop:=
 ∀(whole:Sem Value)(pins:List (Addr×Obj))(s:Shared)(σ:St)(H:Hp)(Q:Bool->Hp->Prop),Inv X pins σ H s->t σ H Q->wpAny (model X.prog X.w) X.A (isTrue e X.env whole) (TP X pins σ Q) X.xe s
theorem PW.pt {X:Cx} {e:Expr} {t:TT} (h:PW X e t):PT X e t:=h _
noncomputable def PA(X:Cx)(es:List Expr)(t:TA):Prop:=
 ∀(pos:Pos)(pins:List (Addr×Obj))(s:Shared)(σ:St)(H:Hp)(Q:List V->Hp->Prop),Inv X pins σ H s->t σ H Q->wpAny (model X.prog X.w) X.A (spliced (backTo pos (starEach es X.env))) (AP X pins σ Q) X.xe s
noncomputable def PS(X:Cx)(st:Stmt)(t:TS):Prop:=
 ∀(pins:List (Addr×Obj))(s:Shared)(σ:St)(H:Hp)(D:Ends),Inv X pins σ H s->t D σ H->wpAny (model X.prog X.w) X.A (exec st X.env) (SP X pins D) X.xe s
noncomputable def qz(X:Cx)(st:List Stmt)(t:TS):Prop:=
 ∀(pins:List (Addr×Obj))(s:Shared)(σ:St)(H:Hp)(D:Ends),Inv X pins σ H s->t D σ H->wpAny (model X.prog X.w) X.A (execs st X.env) (SP X pins D) X.xe s
theorem dF{α:Type}{t:Sem α}{Q Q':α->Shared->Prop}{M:Model}{A:Around}{E:Value->Shared->Prop}{s:Shared}(h:wpAny M A t Q E s)(hQ:∀a s,Q a s->Q' a s):wpAny M A t Q' E s:=wpAny_mono h hQ fun _ _ x=>x
section
variable{X:Cx}
noncomputable def wg(i:Nat):TE:=fun σ H Q=>∃v,σ[i]? =some (some v)/\Q v H
noncomputable def tC(v:V):TE:=fun _ H Q=>Q v H
theorem Nz{i:Nat}{x:Str}{pos:Pos}(hN:X.N[i]? =some x)(hv:Mr X.env.scope x)(hd:(x==("__debug__":Str))=false:=by decide)(hcd:(x==("__classdict__":Str))=false:=by decide):PE X (.Name x pos) (wg i):=by
 intro pins s σ H Q I h;obtain⟨v,e,h⟩:=h;obtain⟨m,hn,hl⟩:=I.loc;obtain⟨u,r,l⟩:=hl i x v hN e hv;have fin:EP X pins σ Q u s:=⟨v,H,I,r,h⟩;rcases l with⟨hk,hm⟩ | ⟨hk,c,hc,hcell⟩
 ·exact wpAny_Name (wpAny_loadName_local I.ok.kind hk hn hm fin) hd
 ·rcases hk with hk | hk
  ·exact wpAny_Name (wpAny_loadName_cell I.ok.kind hk hc hcell fin) hd
  ·exact wpAny_Name (wpAny_loadName_free I.ok.kind hk hc hcell fin hcd) hd
theorem aq{i j pos}:PE X (.Constant (.int i) j pos) (tC (.int i)):=fun _ _ _ H _ I h=>wpAny_Constant_int ⟨.int i,H,I.tok _,⟨_,Z⟩,h⟩
theorem fM{b j pos}:PE X (.Constant (.bool b) j pos) (tC (.bl b)):=fun _ _ _ H _ I h=>Constant_bool ⟨.bl b,H,I,Z,h⟩
theorem zr{j pos}:PE X (.Constant .none j pos) (tC .non):=fun _ _ _ H _ I h=>Constant_none ⟨.non,H,I,Z,h⟩
theorem dC{x j pos}:PE X (.Constant (.str x) j pos) (tC (.str x)):=fun _ _ _ H _ I h=>Calls.Constant_str ⟨.str x,H,I.tok _,⟨_,Z⟩,h⟩
noncomputable def Gl(X:Cx)(x:Str):Prop:=X.env.kindOf x=some .globalImplicit
theorem mQ{E:Value->Shared->Prop}{pins:List (Addr×Obj)}{s:Shared}{σ:St}{H:Hp}{x:Str}{u:Value}{pos:Pos}{Q:Value->Shared->Prop}(I:Inv X pins σ H s)(hg:Gl X x)(hm:X.mg x=some u)(h:Q u s)(hd:(x==("__debug__":Str))=false:=by decide):wpAny (model X.prog X.w) X.A (eval (.Name x pos) X.env) Q E s:=
 Calls.Name_function_global I.ok.kind hg (Calls.loadGlobal_global (by rw[I.ok.glob];exact I.mod.glob.keeps I.bk) hm h) hd
theorem nW{E:Value->Shared->Prop}{pins:List (Addr×Obj)}{s:Shared}{σ:St}{H:Hp}{x:Str}{u:Value}{pos:Pos}{Q:Value->Shared->Prop}(I:Inv X pins σ H s)(hg:Gl X x)(hm:X.mg x=none)(hv:bootBuiltins x=some u)(h:Q u s)(hn:x≠"__name__":=by decide)(hd:(x==("__debug__":Str))=false:=by decide):wpAny (model X.prog X.w) X.A (eval (.Name x pos) X.env) Q E s:=by obtain⟨mb,h1,h2⟩:=I.mod.blt;exact Calls.Name_function_global I.ok.kind hg (Calls.loadGlobal_builtin (by rw[I.ok.glob];exact I.mod.glob.keeps I.bk) hm (by rw[I.ok.blt];exact h1.keeps I.bk) ((h2 x hn).trans hv) h) hd
theorem bY{x:Str}{v:V}{u:Value}{pos:Pos}(hg:Gl X x)(hm:X.mg x=some u)(r:RelV v u)(hd:(x==("__debug__":Str))=false:=by decide):PE X (.Name x pos) (tC v):=
 fun _ _ _ H _ I h=>mQ I hg hm ⟨v,H,I,r,h⟩ hd
theorem Kw{x:Str}{v:V}{u:Value}{pos:Pos}(hg:Gl X x)(hm:X.mg x=none)(hv:bootBuiltins x=some u)(r:RelV v u)(hn:x≠"__name__":=by decide)(hd:(x==("__debug__":Str))=false:=by decide):PE X (.Name x pos) (tC v):=
 fun _ _ _ H _ I h=>nW I hg hm hv ⟨v,H,I,r,h⟩ hn hd
variable{a b:Expr}{ta tb:TE}{pos:Pos}
noncomputable def PC(X:Cx)(op:CmpOp)(a b:Expr)(t:TE):Prop:=
 ∀(pins:List (Addr×Obj))(s:Shared)(σ:St)(H:Hp)(Q:VK),Inv X pins σ H s->t σ H Q->
  wpAny (model X.prog X.w) X.A (eval a X.env) (fun v s₁=>wpAny (model X.prog X.w) X.A (eval b X.env) (fun u s₂=>wpAny (model X.prog X.w) X.A (compareOp op v u) (EP X pins σ Q) X.xe s₂) X.xe s₁) X.xe s
theorem Ht(b:Expr){op:CmpOp}(h:op≠ .In)(h2:op≠ .NotIn):behindInMarks op b=false:=by
 have e1:(op==CmpOp.In)=false:=by cases op<;>first | rfl | exact absurd Z h
 have e2:(op==CmpOp.NotIn)=false:=by cases op<;>first | rfl | exact absurd Z h2
 cases b<;>simp[behindInMarks,e1,e2]
noncomputable def Pq(ta:TE):TE:=fun σ H Q=>ta σ H fun x H1=>Q (.bl (!decide (x= .non))) H1
theorem RelV.none_iff {x:V} {v:Value} (r:RelV x v):(v==Value.none)=decide (x= .non):=by
 cases x with
 | non=>cases r;rfl
 | bl _=>cases r;rfl
 | int _=>obtain⟨t,rfl⟩:=r;rfl
 | str _=>obtain⟨t,rfl⟩:=r;rfl
 | byt _=>obtain⟨t,rfl⟩:=r;rfl
 | flt _=>obtain⟨t,rfl⟩:=r;rfl
 | ref _=>cases r;rfl
 | ty _=>cases r;rfl
theorem K5{j pos'}(ha:PE X a ta):PC X .IsNot a (.Constant .none j pos') (Pq ta):=by intro pins s σ H Q I h;refine dF (ha pins s σ H _ I h) fun v s1 ⟨x,H1,I1,r1,q1⟩=>?_;exact Constant_none (isnot_none_gen ⟨.bl _,H1,I1,by rw[r1.none_iff];rfl,q1⟩)
noncomputable def tB(t:TE):TT:=fun σ H Q=>t σ H fun x H1=>∃c,x= .bl c/\Q c H1
theorem M6{op:CmpOp}{t:TE}(h:PC X op a b t)(h1:behindInMarks op b=false:=by first | exact Ht _ (by decide) (by decide) | rfl):PT X (.Compare a [op] [b] pos) (tB t):=by intro pins s σ H Q I hw;refine wpAny_isTrue_Compare1 (dF (h pins s σ H _ I hw) fun v s1 h1=>dF h1 fun u s2 h2=>dF h2 fun c s3 ⟨x,H1,I1,r1,q1⟩=>?_) h1;obtain⟨d,rfl,q⟩:=q1;cases r1;exact wpAny_truthy_bool ⟨H1,I1,q⟩
theorem bU{e:Expr}{t:TE}(h:PE X e t)(he:∀whole,isTrue e X.env whole=(do let v <-whole;standAt e.pos;holding [v] (truthy v)):=by intro _;rfl):PT X e (tB t):=by intro pins s σ H Q I hw;refine isTrue_plain (dF (h pins s σ H _ I hw) fun v s1 ⟨x,H1,I1,r1,q1⟩=>?_) (he _);obtain⟨d,rfl,q⟩:=q1;cases r1;exact wpAny_truthy_bool ⟨H1,I1,q⟩
variable{tA tB':TT}{rest:List Expr}
noncomputable def Ov(t u:TT):TT:=fun σ H Q=>t σ H fun c H1=>if c=true then u σ H1 Q else Q false H1
noncomputable def S8(t u:TT):TT:=fun σ H Q=>t σ H fun c H1=>if c=true then Q true H1 else u σ H1 Q
noncomputable def RC(t:TT):TT:=fun σ H Q=>t σ H fun c H1=>Q (!c) H1
theorem yo(ha:PT X a tA):PW X (.BoolOp .And [a] pos) tA:=by
 intro wh pins s σ H Q I h;refine isTrue_and (dF (ha pins s σ H Q I h) fun c s1 e=>?_);cases c with
 | true=>exact isTrue_and_nil e
 | false=>exact e
theorem iG(ha:PT X a tA):PW X (.BoolOp .Or [a] pos) tA:=by
 intro wh pins s σ H Q I h;refine isTrue_or (dF (ha pins s σ H Q I h) fun c s1 e=>?_);cases c with
 | false=>exact isTrue_or_nil e
 | true=>exact e
theorem Dh(ha:PT X a tA)(hb:PW X (.BoolOp .And (b::rest) pos) tB'):PW X (.BoolOp .And (a::b::rest) pos) (Ov tA tB'):=by
 intro wh pins s σ H Q I h;refine isTrue_and (dF (ha pins s σ H _ I h) fun c s1 ⟨H1,I1,q1⟩=>?_);cases c with
 | true=>exact hb wh pins s1 σ H1 Q I1 q1
 | false=>exact⟨H1,I1,q1⟩
theorem jw(ha:PT X a tA)(hb:PW X (.BoolOp .Or (b::rest) pos) tB'):PW X (.BoolOp .Or (a::b::rest) pos) (S8 tA tB'):=by
 intro wh pins s σ H Q I h;refine isTrue_or (dF (ha pins s σ H _ I h) fun c s1 ⟨H1,I1,q1⟩=>?_);cases c with
 | true=>exact⟨H1,I1,q1⟩
 | false=>exact hb wh pins s1 σ H1 Q I1 q1
theorem cW(ha:PT X a tA):PT X (.UnaryOp .Not a pos) (RC tA):=by intro pins s σ H Q I h;exact isTrue_not (ha pins s σ H (fun c H1=>Q (!c) H1) I h)
noncomputable def Qd(ta tb:TE):TE:=fun σ H Q=>ta σ H fun x H1=>∃c,x= .bl c/\if c=true then tb σ H1 Q else Q (.bl false) H1
noncomputable def PP(ta:TE):TE:=fun σ H Q=>ta σ H fun x H1=>∃c,x= .bl c/\Q (.bl (!c)) H1
theorem qm{op}{t:TE}(h:PE X a t):PE X (.BoolOp op [a] pos) t:=fun pins s σ H Q I hw=>BoolOp_one (h pins s σ H Q I hw)
theorem pX(ha:PE X a ta)(hb:PE X (.BoolOp .And (b::rest) pos) tb):PE X (.BoolOp .And (a::b::rest) pos) (Qd ta tb):=by
 intro pins s σ H Q I h;refine BoolOp_and (dF (ha pins s σ H _ I h) fun v s1 ⟨x,H1,I1,r1,q1⟩=>?_);obtain⟨c,rfl,q1⟩:=q1;cases r1;refine wpAny_truthy_bool ?_;cases c with
 | true=>exact hb pins s1 σ H1 Q I1 q1
 | false=>exact⟨.bl false,H1,I1,Z,q1⟩
theorem Mz(ha:PE X a ta):PE X (.UnaryOp .Not a pos) (PP ta):=by intro pins s σ H Q I h;refine UnaryOp_ (dF (ha pins s σ H _ I h) fun v s1 ⟨x,H1,I1,r1,q1⟩=>?_);obtain⟨c,rfl,q1⟩:=q1;cases r1;exact not_of (wpAny_truthy_bool ⟨.bl (!c),H1,I1,Z,q1⟩)
noncomputable def S6(t:TT)(ta tb:TE):TE:=fun σ H Q=>t σ H fun c H1=>if c=true then ta σ H1 Q else tb σ H1 Q
theorem vD{c:Expr}(hc:PT X c tA)(ha:PE X a ta)(hb:PE X b tb):PE X (.IfExp c a b pos) (S6 tA ta tb):=by
 intro pins s σ H Q I h;refine wpAny_IfExp (dF (hc pins s σ H _ I h) fun d s1 ⟨H1,I1,q1⟩=>?_);cases d with
 | true=>exact ha pins s1 σ H1 Q I1 q1
 | false=>exact hb pins s1 σ H1 Q I1 q1
end
noncomputable def aP(K:W.Frag)(H:Hp)(a:Addr)(xs:List V):Prop:=
 Rd H a (.lst xs)\/
  ∃(o:Obj)(its:Array Value)(n:Nat),K.lookup a=some o/\o.cls= .type "list"/\o.dict=none/\o.data= .seq its n/\its.size<=sizeLine/\Vals xs its.toList
noncomputable def d7(K:W.Frag)(H:Hp)(a:Addr)(xs:List V):Prop:=
 Rd H a (.tup xs)\/
  ∃(o:Obj)(its:Array Value)(n:Nat),K.lookup a=some o/\o.cls= .type "tuple"/\o.data= .seq its n/\its.size<=sizeLine/\Vals xs its.toList
noncomputable def Rk:Value->Option V
 | .none=>some .non
 | .bool b=>some (.bl b)
 | .int i _=>some (.int i)
 | .str x _=>some (.str x)
 | .bytes b _=>some (.byt b)
 | .float b _=>some (.flt b)
 | .ref a=>some (.ref a)
 | .type n=>some (.ty n)
 | _=>none
theorem RelV.abs {x:V} {u:Value} (r:RelV x u):Rk u=some x:=by
 cases x with
 | non=>cases r;rfl
 | bl _=>cases r;rfl
 | int _=>obtain⟨t,rfl⟩:=r;rfl
 | str _=>obtain⟨t,rfl⟩:=r;rfl
 | byt _=>obtain⟨t,rfl⟩:=r;rfl
 | flt _=>obtain⟨t,rfl⟩:=r;rfl
 | ref _=>cases r;rfl
 | ty _=>cases r;rfl
theorem RelV.inj {x y:V} {u:Value} (r:RelV x u) (q:RelV y u):x=y:=Option.some.inj (r.abs.symm.trans q.abs)
theorem Vals.inj:∀{xs ys:List V}{us:List Value},Vals xs us->Vals ys us->xs=ys
 | _,_,_,.nil,.nil=>Z
 | _,_,_,.cons r t,.cons r' t'=>by rw[r.inj r',Vals.inj t t']
section
variable{X:Cx}{pins:List (Addr×Obj)}{σ:St}{H:Hp}{s:Shared}{a:Addr}{xs ys:List V}
theorem aP.of {K:W.Frag} (h:H a=some (.lst xs)):aP K H a xs:= .inl (.inl h)
theorem d7.of {K:W.Frag} (h:H a=some (.tup xs)):d7 K H a xs:= .inl (.inl h)
theorem Inv.list (I:Inv X pins σ H s) (h:aP X.K H a xs):∃its:List Value,Vals xs its/\PlainL s.heap a its.toArray/\xs.length<=sizeLine:=by
 rcases h with h | ⟨o,its,n,hk,hc,hd,hs,hz,r⟩
 ·obtain⟨z,its,n,r,e⟩:=h.ok I.hok;exact⟨its,r,⟨_,n,e,Z,Z,Z⟩,z⟩
 ·refine⟨its.toList,r,⟨o,n,I.kIn a o hk,hc,hd,by simpa using hs⟩,?_⟩;have e:=r.length;simp only[Array.length_toList] at e;omega
theorem Inv.tuple (I:Inv X pins σ H s) (h:d7 X.K H a xs):∃its:List Value,Vals xs its/\IsTup s.heap a its.toArray/\xs.length<=sizeLine:=by
 rcases h with h | ⟨o,its,n,hk,hc,hs,hz,r⟩
 ·obtain⟨z,its,r,p⟩:=h.ok I.hok;exact⟨its,r,p,z⟩
 ·refine⟨its.toList,r,⟨o,I.kIn a o hk,hc,n,by simpa using hs⟩,?_⟩;have e:=r.length;simp only[Array.length_toList] at e;omega
theorem Inv.list_inj (I:Inv X pins σ H s) (h:aP X.K H a xs) (h':aP X.K H a ys):xs=ys:=by
 obtain⟨its,r,⟨o,n,e,_,_,d⟩,_⟩:=I.list h;obtain⟨its',r',⟨o',n',e',_,_,d'⟩,_⟩:=I.list h';rw[e] at e';cases e';rw[d] at d';injection d' with d1 _
 have:its=its':=by simpa using congrArg Array.toList d1
 subst this;exact r.inj r'
theorem Inv.tuple_inj (I:Inv X pins σ H s) (h:d7 X.K H a xs) (h':d7 X.K H a ys):xs=ys:=by
 obtain⟨its,r,⟨o,e,_,n,d⟩,_⟩:=I.tuple h;obtain⟨its',r',⟨o',e',_,n',d'⟩,_⟩:=I.tuple h';rw[e] at e';cases e';rw[d] at d';injection d' with d1 _
 have:its=its':=by simpa using congrArg Array.toList d1
 subst this;exact r.inj r'
end
noncomputable abbrev Cx.wish (X:Cx) (E:Value->Shared->Prop):Cx:={X with xe:=E}
noncomputable abbrev Cx.nox (X:Cx):Cx:=X.wish fun _ _=>False
theorem Cx.Ok.wish {X:Cx} (ok:X.Ok) (E:Value->Shared->Prop):(X.wish E).Ok:=
 ⟨ok.mod,ok.kind,ok.glob,ok.blt,ok.above,ok.inj,ok.has,ok.cab,ok.hd,ok.frames,ok.stk,ok.exf,ok.bs,ok.bsz,ok.noex,ok.exfs,ok.funs,ok.frf⟩
theorem Cx.Ok.unwish {X:Cx} {E:Value->Shared->Prop} (ok:(X.wish E).Ok):X.Ok:=
 ⟨ok.mod,ok.kind,ok.glob,ok.blt,ok.above,ok.inj,ok.has,ok.cab,ok.hd,ok.frames,ok.stk,ok.exf,ok.bs,ok.bsz,ok.noex,ok.exfs,ok.funs,ok.frf⟩
section
variable{X:Cx}{pins:List (Addr×Obj)}{σ:St}{H:Hp}{s:Shared}{E:Value->Shared->Prop}
theorem Inv.wish (I:Inv X pins σ H s) (E:Value->Shared->Prop):Inv (X.wish E) pins σ H s:=⟨I.ok.wish E,I.os,I.bare,I.base,I.loc,I.cell,I.free,I.freeC,I.pin,I.hok,I.len⟩
theorem Inv.unwish (I:Inv (X.wish E) pins σ H s):Inv X pins σ H s:=⟨I.ok.unwish,I.os,I.bare,I.base,I.loc,I.cell,I.free,I.freeC,I.pin,I.hok,I.len⟩
theorem SP.unwish {D:Ends} {f:Flow} {s':Shared} (h:SP (X.wish E) pins D f s'):SP X pins D f s':=by
 cases f with
 | next=>obtain⟨σ',H',I,q⟩:=h;exact⟨σ',H',I.unwish,q⟩
 | brk=>obtain⟨σ',H',I,q⟩:=h;exact⟨σ',H',I.unwish,q⟩
 | cont=>obtain⟨σ',H',I,q⟩:=h;exact⟨σ',H',I.unwish,q⟩
 | ret u=>obtain⟨v,σ',H',I,r,q⟩:=h;exact⟨v,σ',H',I.unwish,r,q⟩
theorem qz.nox {st:List Stmt} {t:TS} (h:qz X.nox st t):qz X st t:=fun pins s σ H D I hw=>
 wpAny_mono (h pins s σ H D (I.wish _) hw) (fun _ _ q=>q.unwish) fun _ _ z=>False.elim z
end
section
variable{X:Cx}{st:Stmt}{rest:List Stmt}{t u:TS}{e:Expr}{te:TE}{pos:Pos}
noncomputable def Iw:TS:=fun D σ H=>D.nx σ H
noncomputable def CT(t u:TS):TS:=fun D σ H=>t {D with nx:=u D} σ H
theorem aX:qz X [] Iw:=fun _ _ σ H _ I h=>wpAny_execs_nil ⟨σ,H,I,h⟩
theorem ao(h1:PS X st t)(h2:qz X rest u):qz X (st::rest) (CT t u):=by
 intro pins s σ H D I h;refine wpAny_execs_cons (dF (h1 pins s σ H {D with nx:=u D} I h) fun f s1 q=>?_);cases f with
 | next=>
  obtain⟨σ',H',I',q⟩:=q;exact h2 pins s1 σ' H' D I' q
 | ret v=>exact q
 | brk=>exact q
 | cont=>exact q
theorem az(h1:PS X st t):qz X [st] t:=by
 intro pins s σ H D I h;refine wpAny_execs_cons (dF (h1 pins s σ H D I h) fun f s1 q=>?_);cases f with
 | next=>exact wpAny_execs_nil q
 | ret v=>exact q
 | brk=>exact q
 | cont=>exact q
theorem Inv.quiet {pins:List (Addr×Obj)} {σ:St} {H:Hp} {s:Shared} (I:Inv X pins σ H s):interactive X.env=false:=by simp[interactive,I.ok.kind]
noncomputable def Qt(te:TE):TS:=fun D σ H=>te σ H fun _ H1=>D.nx σ H1
theorem bQ(he:PE X e te)(hs:swapsWith e none pos.line X.env=pure false:=by rfl):PS X (.Expr e pos) (Qt te):=by intro pins s σ H D I h;exact wpAny_Expr_any (dF (he pins s σ H _ I h) fun v s1 ⟨x,H1,I1,r1,q1⟩=>⟨σ,H1,I1,q1⟩) I.quiet hs
noncomputable def Oc(te:TE):TS:=fun D σ H=>te σ H D.rt
theorem aN(he:PE X e te):PS X (.Return (some e) pos) (Oc te):=by intro pins s σ H D I h;exact wpAny_Return_some (dF (he pins s σ H _ I h) fun v s1 ⟨x,H1,I1,r1,q1⟩=>⟨x,σ,H1,I1,r1,q1⟩)
noncomputable def Qk(c:TT)(t u:TS):TS:=fun D σ H=>c σ H fun b H1=>if b=true then t D σ H1 else u D σ H1
theorem bN{c:Expr}{a b:List Stmt}{tc:TT}(hc:PT X c tc)(ha:qz X a t)(hb:qz X b u):PS X (.If c a b pos) (Qk tc t u):=by
 intro pins s σ H D I h;refine wpAny_If (dF (hc pins s σ H _ I h) fun d s1 ⟨H1,I1,q1⟩=>?_);cases d with
 | true=>exact ha pins s1 σ H1 D I1 q1
 | false=>exact hb pins s1 σ H1 D I1 q1
end
noncomputable abbrev TG:=V->St->Hp->(St->Hp->Prop)->Prop
noncomputable abbrev JT:=List V->St->Hp->(St->Hp->Prop)->Prop
noncomputable def PG(X:Cx)(target:Expr)(t:TG):Prop:=
 ∀(pins:List (Addr×Obj))(s:Shared)(σ:St)(H:Hp)(v:V)(u:Value)(Q:St->Hp->Prop),Inv X pins σ H s->RelV v u->t v σ H Q->
  wpAny (model X.prog X.w) X.A (assign target X.env u) (fun _ s'=>∃σ' H',Inv X pins σ' H' s'/\Q σ' H') X.xe s
noncomputable def Ot(X:Cx)(ts:List Expr)(t:JT):Prop:=
 ∀(pins:List (Addr×Obj))(s:Shared)(σ:St)(H:Hp)(vs:List V)(us:List Value)(Q:St->Hp->Prop),Inv X pins σ H s->Vals vs us->t vs σ H Q->
  wpAny (model X.prog X.w) X.A (assignInOrder ((assignEach ts X.env).map (·.2)) us) (fun _ s'=>∃σ' H',Inv X pins σ' H' s'/\Q σ' H') X.xe s
noncomputable abbrev Ml:=V->V->V->Hp->(Hp->Prop)->Prop
noncomputable def Qn(X:Cx)(t:Ml):Prop:=
 ∀(pins:List (Addr×Obj))(s:Shared)(σ:St)(H:Hp)(o i v:V)(ov iv u:Value)(Q:Hp->Prop),Inv X pins σ H s->RelV o ov->RelV i iv->RelV v u->t o i v H Q->
  wpAny (model X.prog X.w) X.A (setItem ov iv u) (fun _ s'=>∃H',Inv X pins σ H' s'/\Q H') X.xe s
section
variable{X:Cx}{pos:Pos}
noncomputable def fK(i:Nat):TG:=fun v σ H Q=>Q (σ.set i (some v)) H
theorem aJ{i:Nat}{x:Str}(hN:X.N.Nodup)(hi:X.N[i]? =some x)(hx:Loc X.env.scope x)(hf:X.fn x=true\/X.env.scope.names.lookup x=some .local:=by first | exact .inl Z | exact .inr Z | assumption):PG X (.Name x pos) (fK i):=by intro pins s σ H v u Q I r h;exact wpAny_assign_Name (uM I hN hi hx r (fun s' I'=>⟨_,H,I',h⟩) hf)
noncomputable def Mm:JT:=fun vs σ H Q=>vs=[]/\Q σ H
noncomputable def Bq(t:TG)(u:JT):JT:=fun vs σ H Q=>∃v r,vs=v::r/\t v σ H fun σ' H'=>u r σ' H' Q
theorem o9:Ot X [] Mm:=by intro pins s σ H vs us Q I r h;obtain⟨e,h⟩:=h;subst e;cases r;exact assignInOrder_nil ⟨σ,H,I,h⟩
theorem dI{e:Expr}{es:List Expr}{t:TG}{u:JT}(h1:PG X e t)(h2:Ot X es u)(hs:(assignEach (e::es) X.env).map (·.2)=assign e X.env::(assignEach es X.env).map (·.2):=by rfl):Ot X (e::es) (Bq t u):=by
 intro pins s σ H vs us Q I r h;obtain⟨v,vr,e1,h⟩:=h;subst e1;cases r with
 | cons r rr=>
  rw[hs];refine assignInOrder_cons (dF (h1 pins s σ H _ _ _ I r h) fun _ s1 ⟨σ1,H1,I1,q1⟩=>?_);exact h2 pins s1 σ1 H1 _ _ Q I1 rr q1
noncomputable def La(K:W.Frag)(n:Nat)(t:JT):TG:=fun v σ H Q=>∃a xs,v= .ref a/\d7 K H a xs/\xs.length=n/\t xs σ H Q
theorem yu{es:List Expr}{k:Nat}{t:JT}{n:Nat}(hc:X.calm=true)(h:Ot X es t)(hn:(assignEach es X.env).length=n:=by rfl)(hst:(assignEach es X.env).findIdx? (·.1)=none:=by rfl):PG X (.Tuple es k pos) (La X.K n t):=by intro pins s σ H v u Q I r hw;obtain⟨a,xs,e1,hq,hl,hw⟩:=hw;subst e1;cases r;obtain⟨its,rv,ht,hz⟩:=I.tuple hq;refine assign_Tuple_tuple (I.ok.hd hc) ht (by simp[hn,<-hl,rv.length]) hst fun h' hx=>?_;have I1:Inv X pins σ H {s with heap:=h'}:=I.kept (t':=s.toks) fun b o e=>hx b o (Nat.ne_of_lt (Heap.lt_size e)) e;exact h pins _ σ H xs _ Q I1 (by simpa using rv) hw
noncomputable def Rt(to ti:TE)(t:Ml):TG:=fun v σ H Q=>to σ H fun o H1=>ti σ H1 fun i H2=>t o i v H2 fun H3=>Q σ H3
theorem Hf{o i:Expr}{to ti:TE}{t:Ml}(ho:PE X o to)(hi:PE X i ti)(hs:Qn X t)(ha:∀v,assign (.Subscript o i pos) X.env v=(do
   let ov <-holding [v] (eval o X.env)
   let iv <-holding [v,ov] (eval i X.env)
   standAt pos
   holding [v,ov,iv] (setItem ov iv v)
   release [v,ov,iv] []):=by intro _;rfl):PG X (.Subscript o i pos) (Rt to ti t):=by
 intro pins s σ H v u Q I r h;rw[ha];refine wpAny_bind (wpAny_holding (dF (ho pins s σ H _ I h) fun ov s1 ⟨x,H1,I1,r1,q1⟩=>?_));refine wpAny_bind (wpAny_holding (dF (hi pins s1 σ H1 _ I1 q1) fun iv s2 ⟨y,H2,I2,r2,q2⟩=>?_));refine wpAny_bind (wpAny_standAt (wpAny_bind (wpAny_holding (dF (hs pins s2 σ H2 x y v ov iv u _ I2 r1 r2 r q2) fun _ s3 ⟨H3,I3,q3⟩=>?_))));exact wpAny_release ⟨σ,H3,I3,q3⟩
noncomputable def Fz(te:TE)(g:TG):TS:=fun D σ H=>te σ H fun x H1=>g x σ H1 D.nx
theorem BR{tg e:Expr}{te:TE}{g:TG}(he:PE X e te)(hg:PG X tg g)(hs:swapsWithSole [tg] e pos.line X.env=pure false:=by rfl)(hw:swappedStores [tg] e X.env=pure none:=by rfl)(h1:(assignEach [tg] X.env).map (·.2)=[assign tg X.env]:=by rfl):PS X (.Assign [tg] e pos) (Fz te g):=by intro pins s σ H D I h;refine wpAny_Assign_stores (dF (he pins s σ H _ I h) fun v s1 ⟨x,H1,I1,r1,q1⟩=>?_) hs hw;rw[h1];exact dF (hg pins s1 σ H1 x v _ I1 r1 q1) fun _ s2 q=>q
theorem aK{i:Nat}{x:Str}{e:Expr}{te:TE}{pos':Pos}(hN:X.N.Nodup)(hi:X.N[i]? =some x)(hx:Loc X.env.scope x)(he:PE X e te)(hs:swapsWith e (some (.Name x pos')) pos.line X.env=pure false:=by rfl)(hf:X.fn x=true\/X.env.scope.names.lookup x=some .local:=by first | exact .inl Z | exact .inr Z | assumption):
  PS X (.Assign [.Name x pos'] e pos) (Fz te (fK i)):=by
 intro pins s σ H D I h;refine wpAny_Assign_Name (dF (he pins s σ H _ I h) fun v s1 ⟨y,H1,I1,r1,q1⟩=>?_) hs;exact uM I1 hN hi hx r1 (fun s2 I2=>⟨_,H1,I2,q1⟩) hf
end
section
variable{X:Cx}{pos:Pos}
noncomputable def Il(c:TT)(tb:TS):TS:=fun D σ H=>∃W:Nat->St->Hp->Prop,(∃m,W m σ H)/\∀m σ H,W m σ H->
 c σ H fun b H1=>if b=true then ∃N:St->Hp->Prop,(∀σ' H',N σ' H'->∃m',m'<m/\W m' σ' H')/\tb {D with nx:=N,ct:=N,bk:=D.nx} σ H1 else D.nx σ H1
theorem Ac{c:Expr}{body:List Stmt}{tc:TT}{tb:TS}(hp:PassesOwn (model X.prog X.w) X.A X.env X.xe)(hc:PT X c tc)(hb:qz X body tb):PS X (.While c body [] pos) (Il tc tb):=by
 intro pins s σ H D I h;obtain⟨W,⟨m0,w0⟩,turn⟩:=h;refine wpAny_While (codeAny_whileLoop (fun n s'=>∃σ' H',Inv X pins σ' H' s'/\W n σ' H') ?_ m0 ⟨σ,H,I,w0⟩);rintro n s1 ⟨σ1,H1,I1,w1⟩;refine wpAny_passesOwn hp (dF (hc pins s1 σ1 H1 _ I1 (turn n σ1 H1 w1)) fun b s2 ⟨H2,I2,q2⟩=>?_);cases b with
 | true=>
  obtain⟨N,hN,q2⟩:=q2;rw[if_pos rfl];refine wpAny_passesOwn hp (dF (hb pins s2 σ1 H2 _ I2 q2) fun f s3 q3=>?_);cases f with
  | next=>
   obtain⟨σ3,H3,I3,n3⟩:=q3;obtain⟨m',hm,w3⟩:=hN σ3 H3 n3;exact⟨m',hm,σ3,H3,I3,w3⟩
  | cont=>
   obtain⟨σ3,H3,I3,n3⟩:=q3;obtain⟨m',hm,w3⟩:=hN σ3 H3 n3;exact⟨m',hm,σ3,H3,I3,w3⟩
  | brk=>exact q3
  | ret v=>exact q3
 | false=>
  rw[if_neg Bool.false_ne_true];exact wpAny_execs_nil ⟨σ1,H2,I2,q2⟩
end
structure It where
 go:Nat->Hp->Prop
 yld:Nat->Hp->V->Hp->Prop
 stop:Nat->Hp->Prop
noncomputable def gF(X:Cx)(pins:List (Addr×Obj))(H:Hp)(b:Addr):Prop:=
 H b=none/\b≠X.env.locals/\b∉X.fs/\(b∈X.ex\/X.s₀.heap.objs.size<=b)/\(∀x c,X.env.cells.lookup x=some c->c≠b)/\∀p∈X.pn++pins,p.1≠b
theorem Inv.fpOk {X:Cx} {pins:List (Addr×Obj)} {σ:St} {H H':Hp} {s:Shared} {b:Addr} (I:Inv X pins σ H s) (hb:s.heap.objs.size<=b) (hn:H' b=none):gF X pins H' b:=by
 refine⟨hn,Nat.ne_of_gt (Nat.lt_of_lt_of_le I.lt hb),I.nofs hb,.inr (Nat.le_trans I.sz hb),fun x c e z=>?_,fun p hp z=>?_⟩
 ·obtain⟨v,q⟩:=I.cell x c e;exact absurd (Nat.lt_of_lt_of_le q.lt (by rw[z];exact hb)) (Nat.lt_irrefl _)
 ·exact absurd (Nat.lt_of_lt_of_le (Heap.lt_size (I.pin p hp).1) (by rw[z];exact hb)) (Nat.lt_irrefl _)
structure Turn(P:Program)(w:World)(K:W.Frag)(tg:Expr)(J:It)(fp:List Addr)(it:Addr)(tn:Nat->Heap->Prop):Prop where
 mem:it∈fp
 obj:∀i h,tn i h->∀b∈fp,∃o,h.get? b=some o/\∀v,o.data≠ .cell v
 keep:∀i h h',tn i h->(∀b∈fp,∀o,h.get? b=some o->h'.get? b=some o)->tn i h'
 item:∀(X:Cx),X.prog=P->X.w=w->X.K=K->X.calm=true->∀(i:Nat)(pins:List (Addr×Obj))(s:Shared)(σ:St)(H:Hp)(E:Value->Shared->Prop),Inv X pins σ H s->(∀b∈fp,gF X pins H b)->tn i s.heap->J.go i H->
  wpAny (model P w) X.A (pyNext (.ref it)) (fun r s1=>∃u,r=some u/\
   wpAny (model P w) X.A (letOwnedTupleGo tg (.ref it) u) (fun _ s2=>∃x H',Inv X pins σ H' s2/\RelV x u/\J.yld i H x H'/\tn (i+1) s2.heap/\∀b∈fp,H' b=none) E s1) E s
 done:∀(X:Cx),X.prog=P->X.w=w->X.K=K->X.calm=true->∀(i:Nat)(pins:List (Addr×Obj))(s:Shared)(σ:St)(H:Hp)(E:Value->Shared->Prop),Inv X pins σ H s->(∀b∈fp,gF X pins H b)->tn i s.heap->J.stop i H->
  wpAny (model P w) X.A (pyNext (.ref it)) (fun r s1=>r=none/\Inv X pins σ H s1) E s
 self:∀(A:Around)(i:Nat)(s:Shared)(Q:Value->Shared->Prop)(E:Value->Shared->Prop),tn i s.heap->Q (.ref it) s->wpAny (model P w) A (pyIter (.ref it)) Q E s
noncomputable abbrev TI:=St->Hp->(It->Hp->Prop)->Prop
noncomputable def PIE(X:Cx)(pins:List (Addr×Obj))(σ:St)(tg:Expr)(R:It->Hp->Prop)(itv:Value)(s2:Shared):Prop:=
 ∃(it:Addr)(fp:List Addr)(tn:Nat->Heap->Prop)(J:It)(H':Hp),itv= .ref it/\Inv X pins σ H' s2/\Turn X.prog X.w X.K tg J fp it tn/\tn 0 s2.heap/\(∀b∈fp,gF X pins H' b)/\R J H'
noncomputable def PI(X:Cx)(tg iter:Expr)(wi:TI):Prop:=
 ∀(pins:List (Addr×Obj))(s:Shared)(σ:St)(H:Hp)(R:It->Hp->Prop),Inv X pins σ H s->wi σ H R->
  wpAny (model X.prog X.w) X.A (eval iter X.env) (fun v s1=>wpAny (model X.prog X.w) X.A (pyIter v) (PIE X pins σ tg R) X.xe s1) X.xe s
theorem zZ{M : Model}{A : Around}{E : Value -> Shared -> Prop}{s : Shared}{tg : Expr}{it : Addr}{u : Value}{o : Obj}{n : String}{vs : Array Value}{Q : Unit -> Shared -> Prop}(ho : s.heap.get? it = some o)(hc : o.cls = .type n)(hd : o.data = .fields vs)(hn:["enumerate","zip","dict_itemiterator","dict_reverseitemiterator","odict_iterator","itertools.zip_longest","itertools.pairwise"].contains n=false)(hQ:Q () s):wpAny M A (letOwnedTupleGo tg (.ref it) u) Q E s:=by
  unfold letOwnedTupleGo
  cases tg<;>first
    | exact wpAny_pure hQ
    | (cases u <;> first
        | exact wpAny_pure hQ
        | (refine wpAny_bind (wpAny_load ho ?_)
           rw[hc,hd];show wpAny M A (if(["enumerate","zip","dict_itemiterator","dict_reverseitemiterator","odict_iterator","itertools.zip_longest","itertools.pairwise"].contains n&&vs[0]? ==some (rawInt _))=true then _ else _) Q E s;rw[if_neg (by intro h;rw[hn,Bool.false_and] at h;cases h)];exact wpAny_pure hQ))
noncomputable def Lh(K:W.Frag)(a:Addr):It:=
 ⟨fun i H=>∃xs x,aP K H a xs/\xs[i]? =some x,fun i H x H'=>H'=H/\∀xs,aP K H a xs->xs[i]? =some x,fun i H=>∃xs,aP K H a xs/\xs.length<=i⟩
noncomputable def Oo(K:W.Frag)(a:Addr):It:=
 ⟨fun i H=>∃xs x,d7 K H a xs/\xs[i]? =some x,fun i H x H'=>H'=H/\∀xs,d7 K H a xs->xs[i]? =some x,fun i H=>∃xs,d7 K H a xs/\xs.length<=i⟩
noncomputable def Mh(lo:Int)(n:Nat):It:=⟨fun i _=>i<n,fun i H x H'=>H'=H/\x= .int (lo+i),fun i _=>n<=i⟩
theorem FT{P:Program}{w:World}{K:W.Frag}{tg:Expr}(a it:Addr):Turn P w K tg (Lh K a) [it] it (fun i h=>h.IsListIter it a i) where
 mem:=by simp
 obj:=fun i h st b hb=>by
  have e:b=it:=by simpa using hb
  subst e;obtain⟨o,e,c,d⟩:=st;exact⟨o,e,fun v z=>by rw[d] at z;cases z⟩
 keep:=fun i h h' st k=>st.at fun o e=>k it (by simp) o e
 item:=by intro X hP hw hK hc i pins s σ H E I hf st hg;subst hP hw hK;obtain⟨xs,x,hq,hx⟩:=hg;obtain⟨its,rv,p,hz⟩:=I.list hq;obtain⟨u,hu,ru⟩:=rv.get hx;obtain⟨f0,f1,f2,f3,f4,f5⟩:=hf it (by simp);refine wpAny_pyNext_list_item st p.isList (x:=u) (by simpa using hu) fun h' st' sb=>?_;have I1:Inv X pins σ H {s with heap:=h'}:=I.turned (t':=s.toks) (fun b o hb e=>(sb.2 b hb).trans e) f0 f1 f3 f4 f5;obtain⟨o,e,c,d⟩:=id st';exact⟨u,Z,zZ (s:={s with heap:=h'}) e c d (by decide) ⟨x,H,I1,ru,⟨Z,fun ys hy=>by rw[I.list_inj hy hq];exact hx⟩,st',fun b hb=>(hf b hb).1⟩⟩
 done:=by intro X hP hw hK hc i pins s σ H E I hf st hg;subst hP hw hK;obtain⟨xs,hq,hx⟩:=hg;obtain⟨its,rv,p,hz⟩:=I.list hq;obtain⟨f0,f1,f2,f3,f4,f5⟩:=hf it (by simp);have hl:=rv.length;exact wpAny_pyNext_list_end (I.ok.hd hc) st p.isList (by simp;omega) fun h' eb=>⟨Z,I.turned (t':=s.toks) (fun b o hb e=>eb b o hb e) f0 f1 f3 f4 f5⟩
 self:=fun _ _ _ _ _ st h=>wpAny_pyIter_listiter st h
theorem De{P:Program}{w:World}{K:W.Frag}{tg:Expr}(a it:Addr):Turn P w K tg (Oo K a) [it] it (fun i h=>h.IsTupleIter it a i) where
 mem:=by simp
 obj:=fun i h st b hb=>by
  have e:b=it:=by simpa using hb
  subst e;obtain⟨o,e,c,d⟩:=st;exact⟨o,e,fun v z=>by rw[d] at z;cases z⟩
 keep:=fun i h h' st k=>st.at fun o e=>k it (by simp) o e
 item:=by intro X hP hw hK hc i pins s σ H E I hf st hg;subst hP hw hK;obtain⟨xs,x,hq,hx⟩:=hg;obtain⟨its,rv,p,hz⟩:=I.tuple hq;obtain⟨u,hu,ru⟩:=rv.get hx;obtain⟨f0,f1,f2,f3,f4,f5⟩:=hf it (by simp);refine wpAny_pyNext_tuple_item st (show s.heap.IsTuple a its.toArray from p) (x:=u) (by simpa using hu) fun h' st' sb=>?_;have I1:Inv X pins σ H {s with heap:=h'}:=I.turned (t':=s.toks) (fun b o hb e=>(sb.2 b hb).trans e) f0 f1 f3 f4 f5;obtain⟨o,e,c,d⟩:=id st';exact⟨u,Z,zZ (s:={s with heap:=h'}) e c d (by decide) ⟨x,H,I1,ru,⟨Z,fun ys hy=>by rw[I.tuple_inj hy hq];exact hx⟩,st',fun b hb=>(hf b hb).1⟩⟩
 done:=by intro X hP hw hK hc i pins s σ H E I hf st hg;subst hP hw hK;obtain⟨xs,hq,hx⟩:=hg;obtain⟨its,rv,p,hz⟩:=I.tuple hq;obtain⟨f0,f1,f2,f3,f4,f5⟩:=hf it (by simp);have hl:=rv.length;exact wpAny_pyNext_tuple_end (I.ok.hd hc) st (show s.heap.IsTuple a its.toArray from p) (by simp;omega) fun h' eb=>⟨Z,I.turned (t':=s.toks) (fun b o hb e=>eb b o hb e) f0 f1 f3 f4 f5⟩
 self:=fun _ _ _ _ _ st h=>wpAny_pyIter_tupleiter st h
theorem Dc{P:Program}{w:World}{K:PySem.W.Frag}{tg:Expr}(it:Addr)(lo:Int)(n:Nat):Turn P w K tg (Mh lo n) [it] it (fun i h=>IsRangeIter h it (lo+(i:Nat) * 1) ((n:Int) - (i:Nat)) 1) where
 mem:=by simp
 obj:=fun i h st b hb=>by
  have e:b=it:=by simpa using hb
  subst e
  exact⟨_,st,fun v z=>by have z':Data.fields _=Data.cell v:=z;cases z'⟩
 keep:=fun i h h' st k=>k it (by simp) _ st
 item:=by intro X hP hw hK hc i pins s σ H E I hf st hg;subst hP hw hK;obtain⟨f0,f1,f2,f3,f4,f5⟩:=hf it (by simp);have W:=Walks.range (prog:=X.prog) (w:=X.w) (I.ok.hd hc) it lo 1 n;refine W.item i s _ _ hg st fun v h' tk hv st' kk=>?_;obtain⟨t,rfl⟩:=hv;have I1:Inv X pins σ H {s with heap:=h',toks:=tk}:=I.turned (fun b o hb e=>kk b o (by simpa using hb) e) f0 f1 f3 f4 f5;refine⟨_,Z,zZ (s:={s with heap:=h',toks:=tk}) (n:="range_iterator") st' Z Z (by decide) ⟨.int (lo+i),H,I1,⟨t,?_⟩,⟨Z,Z⟩,st',fun b hb=>(hf b hb).1⟩⟩;rw[Int.mul_one]
 done:=by intro X hP hw hK hc i pins s σ H E I hf st hg;subst hP hw hK;obtain⟨f0,f1,f2,f3,f4,f5⟩:=hf it (by simp);exact wpAny_pyNext_range_end (I.ok.hd hc) st (by have:n<=i:=hg;omega) fun h' eb=>⟨Z,I.turned (t':=s.toks) (fun b o hb e=>eb b o hb e) f0 f1 f3 f4 f5⟩
 self:=fun _ _ _ _ _ st h=>wpAny_pyIter_rangeiter st h
section
variable{X:Cx}{tg:Expr}
noncomputable def Lq(K:W.Frag)(tl:TE):TI:=fun σ H R=>tl σ H fun x H1=>∃a,x= .ref a/\(∃xs,aP K H1 a xs)/\R (Lh K a) H1
noncomputable def Qe(K:W.Frag)(tl:TE):TI:=fun σ H R=>tl σ H fun x H1=>∃a,x= .ref a/\(∃xs,d7 K H1 a xs)/\R (Oo K a) H1
theorem Ku{l:Expr}{tl:TE}(hl:PE X l tl):PI X tg l (Lq X.K tl):=by
 intro pins s σ H R I h;refine dF (hl pins s σ H _ I h) fun v s1 ⟨x,H1,I1,r1,q1⟩=>?_;obtain⟨a,e,⟨xs,hq⟩,q⟩:=q1;subst e;cases r1;obtain⟨its,rv,p,hz⟩:=I1.list hq;refine wpAny_pyIter_list p.isList ?_;refine⟨s1.heap.objs.size,[s1.heap.objs.size],_,_,H1,Z,I1.kept (t':=s1.toks) fun b o e=>Heap.get?_push_of_some _ e,FT a _,⟨_,Heap.get?_push_size _ Z,Z,Z⟩,fun b hb=>?_,q⟩;have e:b=s1.heap.objs.size:=by simpa using hb
 subst e;exact I1.fpOk (Nat.le_refl _) (I1.hok.fresh (Nat.le_refl _))
theorem M9{l:Expr}{tl:TE}(hl:PE X l tl):PI X tg l (Qe X.K tl):=by
 intro pins s σ H R I h;refine dF (hl pins s σ H _ I h) fun v s1 ⟨x,H1,I1,r1,q1⟩=>?_;obtain⟨a,e,⟨xs,hq⟩,q⟩:=q1;subst e;cases r1;obtain⟨its,rv,p,hz⟩:=I1.tuple hq;refine wpAny_pyIter_tuple (show s1.heap.IsTuple a its.toArray from p) ?_;refine⟨s1.heap.objs.size,[s1.heap.objs.size],_,_,H1,Z,I1.kept (t':=s1.toks) fun b o e=>Heap.get?_push_of_some _ e,De a _,⟨_,Heap.get?_push_size _ Z,Z,Z⟩,fun b hb=>?_,q⟩;have e:b=s1.heap.objs.size:=by simpa using hb
 subst e;exact I1.fpOk (Nat.le_refl _) (I1.hok.fresh (Nat.le_refl _))
theorem Ia{pins:List (Addr×Obj)}{σ:St}{H:Hp}{s:Shared}{R:It->Hp->Prop}{E:Value->Shared->Prop}{lo hi:Int}{t u v:Tok}{tk:Nat}(I:Inv X pins σ H s)(h1: -(2 ^ 62)<=lo)(h2:lo<2 ^ 62)(h3: -(2 ^ 62)<=hi)(h4:hi<2 ^ 62)(q:R (Mh lo (hi - lo).toNat) H):wpAny (model X.prog X.w) X.A (pyIter (.ref s.heap.objs.size)) (PIE X pins σ tg R) E {s with heap:=s.heap.push {cls:= .type "range",data:= .fields #[.int lo t,.int hi u,.int 1 v]},toks:=tk}:=by
 refine wpAny_pyIter_range (IsRange.new ..) (small_one h1 h2 h3 h4) ?_;have I1:Inv X pins σ H {s with heap:=s.heap.push {cls:= .type "range",data:= .fields #[.int lo t,.int hi u,.int 1 v]},toks:=tk}:=I.kept fun b o e=>Heap.get?_push_of_some _ e
 refine⟨(s.heap.push {cls:= .type "range",data:= .fields #[.int lo t,.int hi u,.int 1 v]}).objs.size,[(s.heap.push {cls:= .type "range",data:= .fields #[.int lo t,.int hi u,.int 1 v]}).objs.size],_,_,H,Z,
  I1.kept (t':=tk) fun b o e=>Heap.get?_push_of_some _ e,Dc _ lo (hi - lo).toNat,?_,fun b hb=>?_,q⟩
 ·have e1:lo+((0:Nat):Int) * 1=lo:=by simp
  have e2:(((hi - lo).toNat:Nat):Int) - ((0:Nat):Int)=Builtin.Range.rangeSize lo hi 1:=by rw[rangeSize_one];split<;>omega
  show IsRangeIter _ _ (lo+((0:Nat):Int) * 1) ((((hi - lo).toNat:Nat):Int) - ((0:Nat):Int)) 1;rw[e1,e2];exact Heap.get?_push_size _ Z
 ·have e:b=(s.heap.push {cls:= .type "range",data:= .fields #[.int lo t,.int hi u,.int 1 v]}).objs.size:=by simpa using hb
  subst e;exact I1.fpOk (Nat.le_refl _) (I1.hok.fresh (Nat.le_refl _))
noncomputable def PK(ta:TA):TI:=fun σ H R=>ta σ H fun vs H1=>∃j:Int,vs=[.int j]/\ -(2 ^ 62)<=j/\j<2 ^ 62/\R (Mh 0 j.toNat) H1
theorem eE{a:Expr}{ta:TA}{p pos:Pos}(hg:Gl X "range")(hm:X.mg "range"=none)(ha:PA X [a] ta)(hs:starEach [a] X.env=[(false,eval a X.env)]:=by rfl):PI X tg (.Call (.Name "range" p) [a] [] pos) (PK ta):=by
 intro pins s σ H R I h;refine Call_ (nW I hg hm boot_range (PyProof.Rows.callWith_type1 (dF (ha pos pins s σ H _ I h) fun us s1 ⟨vs,H1,I1,r1,q1⟩=>?_) hs Z));obtain⟨j,e,q1,q2,q⟩:=q1;subst e;cases r1 with
 | cons r rr=>
  cases rr;obtain⟨t,rfl⟩:=r;exact call_range_1 (Ia I1 (by omega) (by omega) q1 q2 (by simpa using q))
noncomputable def Ra(wi:TI)(g:TG)(tb:TS):TS:=fun D σ H=>wi σ H fun J H1=>∃W:Nat->Nat->St->Hp->Prop,(∃m,W 0 m σ H1)/\∀i m σ H,W i m σ H->
 (J.stop i H/\D.nx σ H)\/(J.go i H/\∃N:St->Hp->Prop,(∀σ' H',N σ' H'->∃m',m'<m/\W (i+1) m' σ' H')/\∀x H',J.yld i H x H'->g x σ H' fun σ2 H2=>tb {D with nx:=N,ct:=N,bk:=D.nx} σ2 H2)
noncomputable def rP(fp:List Addr)(h:Heap):List (Addr×Obj):=fp.filterMap fun b=>(h.get? b).map fun o=>(b,o)
theorem jg{fp:List Addr}{h:Heap}{b:Addr}{o:Obj}(hb:b∈fp)(e:h.get? b=some o):(b,o)∈rP fp h:=List.mem_filterMap.mpr ⟨b,hb,by rw[e];rfl⟩
theorem Fv{fp:List Addr}{h:Heap}{p:Addr×Obj}(hp:p∈rP fp h):p.1∈fp/\h.get? p.1=some p.2:=by
 obtain⟨b,hb,e⟩:=List.mem_filterMap.mp hp;cases q:h.get? b with
 | none=>rw[q] at e;cases e
 | some o=>
  rw[q] at e;have e':(b,o)=p:=Option.some.inj e;subst e';exact⟨hb,q⟩
theorem Inv.pinned {pins:List (Addr×Obj)} {σ:St} {H:Hp} {s:Shared} {fp:List Addr} (I:Inv X pins σ H s) (hf:∀b∈fp,gF X pins H b) (ho:∀b∈fp,∃o,s.heap.get? b=some o/\∀v,o.data≠ .cell v):Inv X (pins++rP fp s.heap) σ H s:=
 I.pins_of fun p hp=>(List.mem_append.mp hp).elim (fun z=>I.pin p (List.mem_append_right _ z)) fun z=>by obtain⟨hb,e⟩:=Fv z;obtain⟨f0,f1,f2,_⟩:=hf p.1 hb;obtain⟨o,e',d⟩:=ho p.1 hb;rw[e] at e';cases e';exact⟨e,f0,f1,f2,d⟩
theorem Inv.unpinned {pins pl:List (Addr×Obj)} {σ:St} {H:Hp} {s:Shared} (I:Inv X (pins++pl) σ H s):Inv X pins σ H s:=I.pins_of fun p hp=>I.pin p (List.mem_append_right _ (List.mem_append_left _ hp))
theorem gm{iter:Expr}{body:List Stmt}{wi:TI}{g:TG}{tb:TS}{pos:Pos}(hp:PassesOwn (model X.prog X.w) X.A X.env X.xe)(hc:X.calm=true)(hi:PI X tg iter wi)(hg:PG X tg g)(hb:qz X body tb)(hs:∀x,foldedSetIterable iter X.env x=pure x:=by intro _;rfl):PS X (.For tg iter body [] pos) (Ra wi g tb):=by
 intro pins s σ H D I h;refine wpAny_For (dF (hi pins s σ H _ I h) fun v s1 h1=>dF h1 fun itv s2 h2=>?_) hs;obtain⟨it,fp,tn,J,H2,e,I2,T,st2,f2,W,⟨m0,w0⟩,turn⟩:=h2;subst e;have stat:∀{H':Hp},(∀b∈fp,H' b=none)->∀b∈fp,gF X pins H' b:=fun hn b hb=>⟨hn b hb,(f2 b hb).2⟩;refine codeAny_forLoop_any (fun n s'=>∃i σ' H',Inv X pins σ' H' s'/\tn i s'.heap/\(∀b∈fp,H' b=none)/\W i n σ' H') ?_ m0 ⟨0,σ,H2,I2,st2,fun b hb=>(f2 b hb).1,w0⟩;rintro n s3 ⟨i,σ3,H3,I3,st3,fr3,w3⟩;rcases turn i n σ3 H3 w3 with⟨stop,qn⟩ | ⟨go,N,hN,step⟩
 ·refine wpAny_passesOwn hp (dF (T.done X Z Z Z hc i pins s3 σ3 H3 X.xe I3 (stat fr3) st3 stop) fun r s4 ⟨hr,I4⟩=>?_);subst hr;exact wpAny_execs_nil ⟨σ3,H3,I4,qn⟩
 ·refine wpAny_passesOwn hp (dF (T.item X Z Z Z hc i pins s3 σ3 H3 X.xe I3 (stat fr3) st3 go) fun r s4 ⟨u,hr,h4⟩=>?_);subst hr;refine wpAny_passesOwn hp (dF h4 fun _ s5 ⟨x,H5,I5,r5,y5,st5,fr5⟩=>?_);have I5':=I5.pinned (stat fr5) (T.obj _ _ st5);refine wpAny_passesOwn hp (dF (hg _ s5 σ3 H5 x u _ I5' r5 (step x H5 y5)) fun _ s6 ⟨σ6,H6,I6,q6⟩=>?_);refine wpAny_passesOwn hp (dF (hb _ s6 σ6 H6 _ I6 q6) fun f s7 q7=>?_)
  have again:∀{σ7:St}{H7:Hp},Inv X (pins++rP fp s5.heap) σ7 H7 s7->N σ7 H7->∃m,m<n/\∃i σ' H',Inv X pins σ' H' s7/\tn i s7.heap/\(∀b∈fp,H' b=none)/\W i m σ' H':=fun{σ7 H7} I7 n7=>by obtain⟨m',hm,w7⟩:=hN σ7 H7 n7;refine⟨m',hm,i+1,σ7,H7,I7.unpinned,T.keep _ _ _ st5 fun b hb o e=>(I7.pin (b,o) (List.mem_append_right _ (List.mem_append_right _ (jg hb e)))).1,fun b hb=>?_,w7⟩;obtain⟨o,e,d⟩:=T.obj _ _ st5 b hb;exact(I7.pin (b,o) (List.mem_append_right _ (List.mem_append_right _ (jg hb e)))).2.1
  cases f with
  | next=>obtain⟨σ7,H7,I7,n7⟩:=q7;exact again I7 n7
  | cont=>obtain⟨σ7,H7,I7,n7⟩:=q7;exact again I7 n7
  | brk=>obtain⟨σ7,H7,I7,q7⟩:=q7;exact⟨σ7,H7,I7.unpinned,q7⟩
  | ret v=>obtain⟨x7,σ7,H7,I7,r7,q7⟩:=q7;exact⟨x7,σ7,H7,I7.unpinned,r7,q7⟩
end
theorem j7{K:PySem.W.Frag}{a:Addr}{xs:List V}{g:TG}{tb:TS}{D:Ends}{σ:St}{H:Hp}(Pv:Nat->St->Hp->Prop)(h0:Pv 0 σ H)(hl:∀i σ H,i<=xs.length->Pv i σ H->aP K H a xs)(hs:∀i x σ H,xs[i]? =some x->Pv i σ H->g x σ H fun σ2 H2=>tb {D with nx:=Pv (i+1),ct:=Pv (i+1),bk:=D.nx} σ2 H2)(hd:∀σ H,Pv xs.length σ H->D.nx σ H):
  ∃W:Nat->Nat->St->Hp->Prop,(∃m,W 0 m σ H)/\∀i m σ H,W i m σ H->
   ((Lh K a).stop i H/\D.nx σ H)\/((Lh K a).go i H/\∃N:St->Hp->Prop,(∀σ' H',N σ' H'->∃m',m'<m/\W (i+1) m' σ' H')/\∀x H',(Lh K a).yld i H x H'->g x σ H' fun σ2 H2=>tb {D with nx:=N,ct:=N,bk:=D.nx} σ2 H2):=by
 refine⟨fun i m σ H=>m=xs.length - i/\i<=xs.length/\Pv i σ H,⟨xs.length,by simp,Nat.zero_le _,h0⟩,?_⟩;rintro i m σ H ⟨rfl,hi,p⟩;have q:=hl i σ H hi p;by_cases hlt:i<xs.length
 ·refine .inr ⟨⟨xs,xs[i],q,by simp[hlt]⟩,Pv (i+1),fun σ' H' p'=>⟨xs.length - (i+1),by omega,Z,hlt,p'⟩,fun x H' y=>?_⟩;obtain⟨e,y⟩:=y;subst e;exact hs i x σ _ (y xs q) p
 ·have e:i=xs.length:=by omega
  subst e;exact .inl ⟨⟨xs,q,Nat.le_refl _⟩,hd σ H p⟩
theorem yF{K:PySem.W.Frag}{a:Addr}{xs:List V}{g:TG}{tb:TS}{D:Ends}{σ:St}{H:Hp}(Pv:Nat->St->Hp->Prop)(h0:Pv 0 σ H)(hl:∀i σ H,i<=xs.length->Pv i σ H->d7 K H a xs)(hs:∀i x σ H,xs[i]? =some x->Pv i σ H->g x σ H fun σ2 H2=>tb {D with nx:=Pv (i+1),ct:=Pv (i+1),bk:=D.nx} σ2 H2)(hd:∀σ H,Pv xs.length σ H->D.nx σ H):
  ∃W:Nat->Nat->St->Hp->Prop,(∃m,W 0 m σ H)/\∀i m σ H,W i m σ H->
   ((Oo K a).stop i H/\D.nx σ H)\/((Oo K a).go i H/\∃N:St->Hp->Prop,(∀σ' H',N σ' H'->∃m',m'<m/\W (i+1) m' σ' H')/\∀x H',(Oo K a).yld i H x H'->g x σ H' fun σ2 H2=>tb {D with nx:=N,ct:=N,bk:=D.nx} σ2 H2):=by
 refine⟨fun i m σ H=>m=xs.length - i/\i<=xs.length/\Pv i σ H,⟨xs.length,by simp,Nat.zero_le _,h0⟩,?_⟩;rintro i m σ H ⟨rfl,hi,p⟩;have q:=hl i σ H hi p;by_cases hlt:i<xs.length
 ·refine .inr ⟨⟨xs,xs[i],q,by simp[hlt]⟩,Pv (i+1),fun σ' H' p'=>⟨xs.length - (i+1),by omega,Z,hlt,p'⟩,fun x H' y=>?_⟩;obtain⟨e,y⟩:=y;subst e;exact hs i x σ _ (y xs q) p
 ·have e:i=xs.length:=by omega
  subst e;exact .inl ⟨⟨xs,q,Nat.le_refl _⟩,hd σ H p⟩
theorem mC{lo:Int}{n:Nat}{g:TG}{tb:TS}{D:Ends}{σ:St}{H:Hp}(Pv:Nat->St->Hp->Prop)(h0:Pv 0 σ H)(hs:∀i σ H,i<n->Pv i σ H->g (.int (lo+i)) σ H fun σ2 H2=>tb {D with nx:=Pv (i+1),ct:=Pv (i+1),bk:=D.nx} σ2 H2)(hd:∀σ H,Pv n σ H->D.nx σ H):
  ∃W:Nat->Nat->St->Hp->Prop,(∃m,W 0 m σ H)/\∀i m σ H,W i m σ H->
   ((Mh lo n).stop i H/\D.nx σ H)\/((Mh lo n).go i H/\∃N:St->Hp->Prop,(∀σ' H',N σ' H'->∃m',m'<m/\W (i+1) m' σ' H')/\∀x H',(Mh lo n).yld i H x H'->g x σ H' fun σ2 H2=>tb {D with nx:=N,ct:=N,bk:=D.nx} σ2 H2):=by
 refine⟨fun i m σ H=>m=n - i/\i<=n/\Pv i σ H,⟨n,by simp,Nat.zero_le _,h0⟩,?_⟩;rintro i m σ H ⟨rfl,hi,p⟩;by_cases hlt:i<n
 ·refine .inr ⟨hlt,Pv (i+1),fun σ' H' p'=>⟨n - (i+1),by omega,Z,hlt,p'⟩,fun x H' y=>?_⟩;obtain⟨e,y⟩:=y;subst e y;exact hs i σ _ hlt p
 ·have e:i=n:=by omega
  subst e;exact .inl ⟨Nat.le_refl _,hd σ H p⟩
theorem Ax{c:TT}{tb:TS}{D:Ends}{σ:St}{H:Hp}(Pv:St->Hp->Prop)(μ:St->Hp->Nat)(h0:Pv σ H)(hs:∀σ H,Pv σ H->c σ H fun b H1=>if b=true then tb {D with nx:=fun σ' H'=>Pv σ' H'/\μ σ' H'<μ σ H,ct:=fun σ' H'=>Pv σ' H'/\μ σ' H'<μ σ H,bk:=D.nx} σ H1 else D.nx σ H1)(mono:∀σ H Q Q',(∀b H1,Q b H1->Q' b H1)->c σ H Q->c σ H Q'):Il c tb D σ H:=by
 refine⟨fun m σ H=>m=μ σ H/\Pv σ H,⟨_,Z,h0⟩,?_⟩;rintro m σ H ⟨rfl,p⟩;refine mono σ H _ _ (fun b H1 q=>?_) (hs σ H p);cases b with
 | true=>exact⟨_,fun σ' H' ⟨p',l⟩=>⟨_,l,Z,p'⟩,q⟩
 | false=>exact q
noncomputable abbrev R2:=V->V->Hp->VK->Prop
noncomputable def tE(X:Cx)(f:Value->Value->Sem Value)(r:R2):Prop:=
 ∀(pins:List (Addr×Obj))(s:Shared)(σ:St)(H:Hp)(x y:V)(v u:Value)(Q:VK),Inv X pins σ H s->RelV x v->RelV y u->r x y H Q->
  wpAny (model X.prog X.w) X.A (f v u) (EP X pins σ Q) X.xe s
noncomputable def RT(X:Cx)(f:Value->Sem Value)(r:V->Hp->VK->Prop):Prop:=
 ∀(pins:List (Addr×Obj))(s:Shared)(σ:St)(H:Hp)(x:V)(v:Value)(Q:VK),Inv X pins σ H s->RelV x v->r x H Q->
  wpAny (model X.prog X.w) X.A (f v) (EP X pins σ Q) X.xe s
noncomputable def iR(X:Cx)(f:Value)(r:List V->Hp->VK->Prop):Prop:=
 ∀(pins:List (Addr×Obj))(s:Shared)(σ:St)(H:Hp)(xs:List V)(us:List Value)(Q:VK),Inv X pins σ H s->Vals xs us->r xs H Q->
  wpAny (model X.prog X.w) X.A (call f us) (EP X pins σ Q) X.xe s
noncomputable def Py(r:R2)(ta tb:TE):TE:=fun σ H Q=>ta σ H fun x H1=>tb σ H1 fun y H2=>r x y H2 Q
noncomputable def Su(r:V->Hp->VK->Prop)(ta:TE):TE:=fun σ H Q=>ta σ H fun x H1=>r x H1 Q
noncomputable def rI(C:Int->Int->Prop)(g:Int->Int->V):R2:=fun x y H Q=>∃i j,x= .int i/\y= .int j/\C i j/\Q (g i j) H
noncomputable def Kv(g:Int->Int->V):R2:=fun x y H Q=>∃i j,x= .int i/\y= .int j/\Q (g i j) H
noncomputable def rU(g:Int->V):V->Hp->VK->Prop:=fun x H Q=>∃i,x= .int i/\Q (g i) H
section
variable{X:Cx}{a b c:Expr}{ta tb tc:TE}{pos:Pos}
theorem N8(ha:PE X a ta)(hb:PE X b tb){pins:List (Addr×Obj)}{s:Shared}{σ:St}{H:Hp}{R:V->V->Hp->Prop}(I:Inv X pins σ H s)(h:ta σ H fun x H1=>tb σ H1 fun y H2=>R x y H2){Q:Value->Shared->Prop}{f:Value->Value->Sem Value}(hf:∀v u s2 x y H2,Inv X pins σ H2 s2->RelV x v->RelV y u->R x y H2->wpAny (model X.prog X.w) X.A (f v u) Q X.xe s2):
  wpAny (model X.prog X.w) X.A (eval a X.env) (fun v s₁=>wpAny (model X.prog X.w) X.A (eval b X.env) (fun u s₂=>wpAny (model X.prog X.w) X.A (f v u) Q X.xe s₂) X.xe s₁) X.xe s:=by
 refine dF (ha pins s σ H _ I h) fun v s1 ⟨x,H1,I1,r1,q1⟩=>?_;refine dF (hb pins s1 σ H1 _ I1 q1) fun u s2 ⟨y,H2,I2,r2,q2⟩=>?_;exact hf v u s2 x y H2 I2 r1 r2 q2
theorem aG{op:Operator}{r:R2}(ho:tE X (binaryOp op) r)(ha:PE X a ta)(hb:PE X b tb):PE X (.BinOp a op b pos) (Py r ta tb):=by intro pins s σ H Q I h;exact wpAny_BinOp (N8 ha hb I h fun v u s2 x y H2 I2 rx ry q=>ho pins s2 σ H2 x y v u Q I2 rx ry q)
theorem xP{op:UnaryOp}{r:V->Hp->VK->Prop}(ho:RT X (unaryOp op) r)(ha:PE X a ta):PE X (.UnaryOp op a pos) (Su r ta):=by intro pins s σ H Q I h;exact UnaryOp_ (dF (ha pins s σ H _ I h) fun v s1 ⟨x,H1,I1,r1,q1⟩=>ho pins s1 σ H1 x v Q I1 r1 q1)
theorem Qy{f:Value->Value->Sem Value}{C:Int->Int->Prop}{g:Int->Int->Int}(rule:∀(i j:Int)(t u:Tok)(s:Shared)(Q:Value->Shared->Prop)(E:Value->Shared->Prop),C i j->Q (.int (g i j) s.toks) {s with toks:=s.toks+1}->wpAny (model X.prog X.w) X.A (f (.int i t) (.int j u)) Q E s):
  tE X f (rI C fun i j=> .int (g i j)):=by
 intro pins s σ H x y v u Q I rx ry h;obtain⟨i,j,rfl,rfl,hc,q⟩:=h;obtain⟨t,rfl⟩:=rx;obtain⟨t',rfl⟩:=ry;exact rule i j t t' s _ _ hc ⟨.int (g i j),H,I.tok _,⟨_,Z⟩,q⟩
theorem O4{f:Value->Value->Sem Value}{g:Int->Int->Int}(rule:∀(i j:Int)(t u:Tok)(s:Shared)(Q:Value->Shared->Prop)(E:Value->Shared->Prop),Q (.int (g i j) s.toks) {s with toks:=s.toks+1}->wpAny (model X.prog X.w) X.A (f (.int i t) (.int j u)) Q E s):
  tE X f (Kv fun i j=> .int (g i j)):=by
 intro pins s σ H x y v u Q I rx ry h;obtain⟨i,j,rfl,rfl,q⟩:=h;obtain⟨t,rfl⟩:=rx;obtain⟨t',rfl⟩:=ry;exact rule i j t t' s _ _ ⟨.int (g i j),H,I.tok _,⟨_,Z⟩,q⟩
theorem KR{f:Value->Value->Sem Value}{g:Int->Int->Bool}(rule:∀(i j:Int)(t u:Tok)(s:Shared)(Q:Value->Shared->Prop)(E:Value->Shared->Prop),Q (.bool (g i j)) s->wpAny (model X.prog X.w) X.A (f (.int i t) (.int j u)) Q E s):
  tE X f (Kv fun i j=> .bl (g i j)):=by
 intro pins s σ H x y v u Q I rx ry h;obtain⟨i,j,rfl,rfl,q⟩:=h;obtain⟨t,rfl⟩:=rx;obtain⟨t',rfl⟩:=ry;exact rule i j t t' s _ _ ⟨.bl (g i j),H,I,Z,q⟩
noncomputable def QV(i j:Int):Prop:=0<j/\j<1073741824
noncomputable def Rq(i j:Int):Prop:=0<=j/\j<=1000000/\i.natAbs<2 ^ 64
noncomputable def Ni(i j:Int):Prop:=(-(2 ^ 64)<i/\i<2 ^ 64)\/(-(2 ^ 64)<j/\j<2 ^ 64)
theorem Ni.ok {i j:Int} (h:Ni i j):IntMulOk i j:=by
 rcases h with⟨h1,h2⟩ | ⟨h1,h2⟩
 ·exact .of_left (intBits_le_64 h1 h2)
 ·exact .of_right (intBits_le_64 h1 h2)
theorem dw:tE X (binaryOp .Add) (Kv fun i j=> .int (i+j)):=O4 fun _ _ _ _ _ _ _ q=>add_int q
theorem pY:tE X (binaryOp .Sub) (Kv fun i j=> .int (i - j)):=O4 fun _ _ _ _ _ _ _ q=>sub_int q
theorem qp:tE X (binaryOp .Mult) (rI Ni fun i j=> .int (i * j)):=Qy fun _ _ _ _ _ _ _ hc q=>mul_int q hc.ok
theorem dq:tE X (binaryOp .FloorDiv) (rI QV fun i j=> .int (i / j)):=Qy fun i j _ _ _ _ _ hc q=>by have h1:(0:Int)<j:=hc.1;have h2:j<1073741824:=hc.2;exact floordiv_int (by omega) (by rw[Int.fdiv_eq_ediv_of_nonneg i (by omega)];exact q) (.inl (PyProof.noPylong_small (by omega)))
theorem bO:tE X (binaryOp .Mod) (rI (fun _ j=>0<j) fun i j=> .int (i % j)):=Qy fun i j _ _ _ _ _ hc q=>by have h1:(0:Int)<j:=hc;exact mod_int' (by omega) (by rw[Int.fmod_eq_emod_of_nonneg i (by omega)];exact q)
theorem yx:tE X (binaryOp .Pow) (rI Rq fun i j=> .int (i ^ j.toNat)):=Qy fun _ _ _ _ _ _ _ hc q=>pow_int_small hc.1 hc.2.1 hc.2.2 q
theorem Sd{f:Value->Sem Value}{g:Int->Int}(rule:∀(i:Int)(t:Tok)(s:Shared)(Q:Value->Shared->Prop)(E:Value->Shared->Prop),Q (.int (g i) s.toks) {s with toks:=s.toks+1}->wpAny (model X.prog X.w) X.A (f (.int i t)) Q E s):
  RT X f (rU fun i=> .int (g i)):=by
 intro pins s σ H x v Q I rx h;obtain⟨i,rfl,q⟩:=h;obtain⟨t,rfl⟩:=rx;exact rule i t s _ _ ⟨.int (g i),H,I.tok _,⟨_,Z⟩,q⟩
theorem rT:RT X (unaryOp .USub) (rU fun i=> .int (-i)):=Sd fun _ _ _ _ _ q=>neg_int q
end
noncomputable def Qp:V->V->Bool
 | .non,.non=>true | .non,.int _=>true | .int _,.non=>true | .non,.bl _=>true | .bl _,.non=>true | .non,.str _=>true | .str _,.non=>true
 | .int _,.int _=>true | .bl _,.bl _=>true | .str _,.str _=>true | .byt _,.byt _=>true
 | .int _,.str _=>true | .str _,.int _=>true | .bl _,.str _=>true | .str _,.bl _=>true
 | _,_=>false
noncomputable def R4:R2:=fun x y H Q=>Qp x y=true/\Q (.bl (decide (x=y))) H
noncomputable def S5:R2:=fun x y H Q=>Qp x y=true/\Q (.bl (!decide (x=y))) H
theorem yV{i j:Int}:decide (V.int i=V.int j)=(i==j):=by rw[Bool.eq_iff_iff];simp
theorem HN{i j:Bool}:decide (V.bl i=V.bl j)=(i==j):=by rw[Bool.eq_iff_iff];simp
theorem Dz{i j:Str}:decide (V.str i=V.str j)=(i==j):=by rw[Bool.eq_iff_iff];simp
theorem DP{i j:Array UInt8}:decide (V.byt i=V.byt j)=(i.toList==j.toList):=by rw[Bool.eq_iff_iff];cases i;cases j;simp
section
variable{X:Cx}{a b c:Expr}{ta tb tc:TE}{pos:Pos}
theorem cg{pins:List (Addr×Obj)}{σ:St}{H:Hp}{s:Shared}{Q:VK}{k k':Bool}(I:Inv X pins σ H s)(q:Q (.bl k) H)(e:k=k'):EP X pins σ Q (.bool k') s:=by subst e;exact⟨.bl k,H,I,Z,q⟩
theorem nC:tE X (compareOp .Eq) R4:=by
 intro pins s σ H x y v u Q I rx ry h;obtain⟨hs,q⟩:=h;cases x with
 | non=>
  cases rx;cases y with
  | non=>cases ry;exact PySem.EqNone.eq_none_none (cg I q (by simp))
  | bl j=>cases ry;exact PySem.EqNone.eq_none_bool (cg I q (by simp))
  | int j=>obtain⟨t',rfl⟩:=ry;exact PySem.EqNone.eq_none_int (cg I q (by simp))
  | str j=>obtain⟨t',rfl⟩:=ry;exact PySem.EqNone.eq_none_str (cg I q (by simp))
  | _=>exact absurd (show false=true from hs) Bool.false_ne_true
 | bl i=>
  cases rx;cases y with
  | non=>cases ry;exact PySem.EqNone.eq_bool_none (cg I q (by simp))
  | bl j=>cases ry;exact eq_bool (cg I q HN)
  | str j=>obtain⟨t',rfl⟩:=ry;exact PySem.EqMixed.eq_bool_str (cg I q (by simp))
  | _=>exact absurd (show false=true from hs) Bool.false_ne_true
 | int i=>
  obtain⟨t,rfl⟩:=rx;cases y with
  | non=>cases ry;exact PySem.EqNone.eq_int_none (cg I q (by simp))
  | int j=>obtain⟨t',rfl⟩:=ry;exact eq_int (cg I q yV)
  | str j=>obtain⟨t',rfl⟩:=ry;exact PySem.EqMixed.eq_int_str (cg I q (by simp))
  | _=>exact absurd (show false=true from hs) Bool.false_ne_true
 | str i=>
  obtain⟨t,rfl⟩:=rx;cases y with
  | non=>cases ry;exact PySem.EqNone.eq_str_none (cg I q (by simp))
  | bl j=>cases ry;exact PySem.EqMixed.eq_str_bool (cg I q (by simp))
  | int j=>obtain⟨t',rfl⟩:=ry;exact PySem.EqMixed.eq_str_int (cg I q (by simp))
  | str j=>obtain⟨t',rfl⟩:=ry;exact eq_str (cg I q Dz)
  | _=>exact absurd (show false=true from hs) Bool.false_ne_true
 | byt i=>
  obtain⟨t,rfl⟩:=rx;cases y with
  | byt j=>obtain⟨t',rfl⟩:=ry;exact W.eq_bytes (cg I q DP)
  | _=>exact absurd (show false=true from hs) Bool.false_ne_true
 | _=>cases y<;>exact absurd (show false=true from hs) Bool.false_ne_true
theorem xg:tE X (compareOp .NotEq) S5:=by
 intro pins s σ H x y v u Q I rx ry h;obtain⟨hs,q⟩:=h;cases x with
 | non=>
  cases rx;cases y with
  | non=>cases ry;exact PySem.EqNone.ne_none_none (cg I q (by simp))
  | bl j=>cases ry;exact PySem.EqNone.ne_none_bool (cg I q (by simp))
  | int j=>obtain⟨t',rfl⟩:=ry;exact PySem.EqNone.ne_none_int (cg I q (by simp))
  | str j=>obtain⟨t',rfl⟩:=ry;exact PySem.EqNone.ne_none_str (cg I q (by simp))
  | _=>exact absurd (show false=true from hs) Bool.false_ne_true
 | bl i=>
  cases rx;cases y with
  | non=>cases ry;exact PySem.EqNone.ne_bool_none (cg I q (by simp))
  | bl j=>cases ry;exact ne_bool (cg I q (congrArg not HN))
  | str j=>obtain⟨t',rfl⟩:=ry;exact PySem.EqMixed.ne_bool_str (cg I q (by simp))
  | _=>exact absurd (show false=true from hs) Bool.false_ne_true
 | int i=>
  obtain⟨t,rfl⟩:=rx;cases y with
  | non=>cases ry;exact PySem.EqNone.ne_int_none (cg I q (by simp))
  | int j=>obtain⟨t',rfl⟩:=ry;exact ne_int (cg I q (congrArg not yV))
  | str j=>obtain⟨t',rfl⟩:=ry;exact PySem.EqMixed.ne_int_str (cg I q (by simp))
  | _=>exact absurd (show false=true from hs) Bool.false_ne_true
 | str i=>
  obtain⟨t,rfl⟩:=rx;cases y with
  | non=>cases ry;exact PySem.EqNone.ne_str_none (cg I q (by simp))
  | bl j=>cases ry;exact PySem.EqMixed.ne_str_bool (cg I q (by simp))
  | int j=>obtain⟨t',rfl⟩:=ry;exact PySem.EqMixed.ne_str_int (cg I q (by simp))
  | str j=>obtain⟨t',rfl⟩:=ry;exact ne_str (cg I q (congrArg not Dz))
  | _=>exact absurd (show false=true from hs) Bool.false_ne_true
 | byt i=>
  obtain⟨t,rfl⟩:=rx;cases y with
  | byt j=>obtain⟨t',rfl⟩:=ry;exact W.ne_bytes (cg I q (congrArg not DP))
  | _=>exact absurd (show false=true from hs) Bool.false_ne_true
 | _=>cases y<;>exact absurd (show false=true from hs) Bool.false_ne_true
theorem Lr:tE X (compareOp .Lt) (Kv fun i j=> .bl (decide (i<j))):=KR fun _ _ _ _ _ _ _ q=>lt_int q
theorem HJ:tE X (compareOp .LtE) (Kv fun i j=> .bl (decide (i<=j))):=KR fun _ _ _ _ _ _ _ q=>le_int q
theorem rm:tE X (compareOp .Gt) (Kv fun i j=> .bl (decide (j<i))):=KR fun _ _ _ _ _ _ _ q=>gt_int q
theorem PN:tE X (compareOp .GtE) (Kv fun i j=> .bl (decide (j<=i))):=KR fun _ _ _ _ _ _ _ q=>ge_int q
theorem aZ(b:Expr){op:CmpOp}(h:op≠ .In:=by decide)(h2:op≠ .NotIn:=by decide):behindInMarks op b=false:=by
 have e1:(op==CmpOp.In)=false:=by cases op<;>first | rfl | exact absurd Z h
 have e2:(op==CmpOp.NotIn)=false:=by cases op<;>first | rfl | exact absurd Z h2
 cases b<;>simp[behindInMarks,e1,e2]
theorem jH{op:CmpOp}{r:R2}(ho:tE X (compareOp op) r)(ha:PE X a ta)(hb:PE X b tb)(hm:behindInMarks op b=false):PE X (.Compare a [op] [b] pos) (Py r ta tb):=by intro pins s σ H Q I h;exact wpAny_Compare1 (N8 ha hb I h fun v u s2 x y H2 I2 rx ry q=>ho pins s2 σ H2 x y v u Q I2 rx ry q) hm
noncomputable def LK(t:TE):TT:=fun σ H Q=>t σ H fun x H'=>∃k,x= .bl k/\Q k H'
theorem aW{op:CmpOp}{r:R2}(ho:tE X (compareOp op) r)(ha:PE X a ta)(hb:PE X b tb)(hm:behindInMarks op b=false):PT X (.Compare a [op] [b] pos) (LK (Py r ta tb)):=by
 intro pins s σ H Q I h
 refine wpAny_isTrue_Compare1 (dF (ha pins s σ H _ I h) fun v s1 ⟨x,H1,I1,r1,q1⟩=>dF (hb pins s1 σ H1 _ I1 q1) fun u s2 ⟨y,H2,I2,r2,q2⟩=>
  dF (ho pins s2 σ H2 x y v u _ I2 r1 r2 q2) fun c s3 ⟨z,H3,I3,r3,k,e,q3⟩=>?_) hm
 subst e;cases r3;exact wpAny_truthy_bool ⟨H3,I3,q3⟩
theorem zx:(sizeLine:Nat)<2 ^ 63:=by rw[sizeLine_eq];decide
theorem vals1{x:V}{us:List Value}(r:Vals [x] us):∃u,us=[u]/\RelV x u:=by
 cases r with
 | cons r1 r2=>cases r2;exact⟨_,Z,r1⟩
theorem vals2{x y:V}{us:List Value}(r:Vals [x,y] us):∃u w',us=[u,w']/\RelV x u/\RelV y w':=by
 cases r with
 | cons r1 r2=>
  cases r2 with
  | cons r3 r4=>cases r4;exact⟨_,_,Z,r1,r3⟩
theorem EY(hc:X.calm=true):iR X (.builtin "max") (fun xs H Q=>∃i j,xs=[.int i,.int j]/\Q (.int (if j>i then j else i)) H):=by
 intro pins s σ H xs us Q I r h;obtain⟨i,j,rfl,q⟩:=h;obtain⟨u,w',rfl,⟨t,rfl⟩,⟨t',rfl⟩⟩:=vals2 r;refine max_two_ints (I.ok.hd hc) fun h' tk k=>⟨_,H,I.kept k,?_,q⟩;by_cases hj:j>i
 ·rw[if_pos hj,if_pos hj];exact⟨_,Z⟩
 ·rw[if_neg hj,if_neg hj];exact⟨_,Z⟩
theorem rG(hc:X.calm=true):iR X (.builtin "min") (fun xs H Q=>∃i j,xs=[.int i,.int j]/\Q (.int (if j<i then j else i)) H):=by
 intro pins s σ H xs us Q I r h;obtain⟨i,j,rfl,q⟩:=h;obtain⟨u,w',rfl,⟨t,rfl⟩,⟨t',rfl⟩⟩:=vals2 r;refine min_two_ints (I.ok.hd hc) fun h' tk k=>⟨_,H,I.kept k,?_,q⟩;by_cases hj:j<i
 ·rw[if_pos hj,if_pos hj];exact⟨_,Z⟩
 ·rw[if_neg hj,if_neg hj];exact⟨_,Z⟩
end
structure Dp(h:Heap)(x dx C:Addr)(mA:Str->Option Value):Prop where
 obj:h.get? x=some (W.instObj C dx)
 ns:h.Ns1 dx mA
 ne:dx≠x
theorem Gz{h:Heap}{dx:Addr}{mA:Str->Option Value}(n:h.Ns1 dx mA):∃od,h.get? dx=some od/\∀name,W.lookIn name od=some (mA name):=by
 obtain⟨o,es,ep,ho,hd,hk,_,hm⟩:=n;refine⟨o,ho,fun name=>?_⟩;have e:=hm name;unfold nsFind findBy at e;rw[<-Array.find?_toList] at e;unfold W.lookIn;rw[hd]
 dsimp only
 split
 ·rename_i y q
  rw[q] at e;exact congrArg some e
 ·rename_i q
  rw[q] at e
  have a:es.toList.any (·.refKey)=false:=by rw[List.any_eq_false];intro y hy;obtain⟨z,t,hkey⟩:=hk y (Array.mem_toList_iff.mp hy);simp[DictEntry.refKey,hkey]
  have a':¬es.toList.any (·.refKey)=true:=by rw[a];exact Bool.false_ne_true
  rw[if_neg a'];exact congrArg some e
theorem Dp.look {h:Heap} {x dx C:Addr} {mA:Str->Option Value} (I:Dp h x dx C mA):∃od,W.InstAt h x (W.instObj C dx) C (some od)/\∀name,W.lookIn name od=some (mA name):=
 let⟨od,ho,hl⟩:=Gz I.ns
 ⟨od,⟨I.obj,Z,Z,ho⟩,hl⟩
section
variable{prog:Program}{w:World}{A:Around}{E:Value->Shared->Prop}{s:Shared}{K:W.Frag}{x dx C f:Addr}{mA:Str->Option Value}{name:Str}{v:Value}
theorem Kf{expr:Bool}{Q:Value->Shared->Prop}(X:K.In s.heap)(I:Dp s.heap x dx C mA)(hg:W.plainGet K C name=true)(hh:W.hasDictIn K C=true)(ha:W.findIn K (.ref C) name=some none)(hv:mA name=some v)(hv':W.handedIn v=true)(h:Q v {s with toks:=s.toks+1}):
  wpAny (model prog w) A (getAttr (.ref x) name expr) Q E s:=by
 obtain⟨od,J,hl⟩:=I.look;exact W.get_value X J (W.plainGet_of hg).1 (W.findObj_own hh ha Z (by rw[hl,hv])) hv' h
theorem HS{pl:Sem Bool}{Q:Value×List Value->Shared->Prop}(X:K.In s.heap)(I:Dp s.heap x dx C mA)(hg:W.plainGet K C name=true)(hf:W.findIn K (.ref C) name=some (some (.ref f)))(ht:W.isFn K (.ref f)=true)(hv:mA name=none)(h:Q (.ref f,[.ref x]) s):
  wpAny (model prog w) A (getMethod (.ref x) name pl) Q E s:=by
 obtain⟨od,J,hl⟩:=I.look;exact W.method_fn X J (W.plainGet_of hg).1 (W.plainGet_of hg).2 hf (beq_iff_eq.mp ht) (by show(W.lookIn name od).map (·.isSome)=some false;rw[hl,hv];rfl) h
theorem Lp{ns:List Str}{Q:Unit->Shared->Prop}(X:K.In s.heap)(I:Dp s.heap x dx C mA)(hs:W.findIn K (.ref C) "__setattr__"=some (some (.builtin "object.__setattr__")))(hp:W.plainOver K C=true)(ht:W.takerIn K C name=some none)(hh:W.hasDictIn K C=true)(hw:PySem.Within mA ns)(hsz:ns.length<=sizeLine)(h:∀h',Dp h' x dx C (fun y=>if y=name then some v else mA y)->Heap.SameBut dx s.heap h'->Q () {s with heap:=h',toks:=s.toks+2}):
  wpAny (model prog w) A (setAttr (.ref x) name v) Q E s:=by
 obtain⟨od,J,hl⟩:=I.look;refine W.set_plain X J hs (W.osa_open (s:={s with toks:=s.toks+1}) (r:=none) X J hp ht fun b=>?_);obtain⟨cd,hc,hd'⟩:=W.any_some hh;have hx:s.heap.get? x=some ⟨.ref C,some dx,.plain,#[]⟩:=I.obj;refine wpAny_bind (wpAny_pure (wpAny_bind (wpAny_bind (wpAny_loadPart hx (wpAny_bind (W.Looks.here (s:={s with toks:=s.toks+1}) (W.looks_clsIn X hc) ?_))))));rw[hd'];refine wpAny_pure (a:=some dx) (wpAny_bind (wpAny_pure (wpAny_bind ?_)));refine wpAny_nsSet1 (s:={s with toks:=s.toks+1}) I.ns fun h' hn2 hs2=>?_;obtain⟨oD,esD,epD,hoD,hdD,hcD⟩:=hn2.count (PySem.Within.cons name v hw);refine wpAny_bind (wpAny_lookBehind hoD (by rw[hdD];exact pastItsLine_dict (Nat.le_trans hcD (by rw[List.length_cons];omega))) ?_);exact wpAny_pure (h _ ⟨(hs2.2 _ (Ne.symm I.ne)).trans I.obj,hn2,I.ne⟩ hs2)
theorem HB{R:Result->Shared->Prop}{vs:List Value}{kw:List (Str×Value)}(X:K.In s.heap)(hm:W.makesIn K C=true)(hi:W.findIn K (.ref C) "__init__"=some (some (.ref f)))(hf:W.typeIn K (.ref f)=some (.type "function"))(h:codeAny (model prog w) (A.under (.builtin "type.__call__" ⟨.ref C::vs,kw⟩)) (.call (.ref f) ⟨.ref (s.heap.objs.size+1)::vs,kw⟩) (W.InitBack (s.heap.objs.size+1) R)
   {s with heap:=(s.heap.push W.emptyDict).push (W.instObj C s.heap.objs.size)}):
  codeAny (model prog w) A (.call (.ref C) ⟨vs,kw⟩) R s:=by
 obtain⟨hh,g,d,t,os⟩:=s;exact W.make_core (W.makes_of X hm) (W.looks_findIn X hi) (fun self=>W.bind_fn X self hf) (.inl Z) h
end
noncomputable def nO(f:Str)(v:V):List (Str×V)->List (Str×V)
  | []=>[(f,v)]
  | (g,x)::r=>if g=f then(g,v)::r else(g,x)::nO f v r
theorem kW(f g:Str)(v:V):∀fs:List (Str×V),(nO f v fs).lookup g=if g=f then some v else fs.lookup g
  | []=>by
    show List.lookup g [(f,v)]=_;by_cases h:g=f
    · have hb:(g==f)=true:=beq_iff_eq.mpr h;simp only[List.lookup,hb,if_pos h]
    · have hb:(g==f)=false:=beq_eq_false_iff_ne.mpr h;simp only[List.lookup,hb,if_neg h]
  | (k,x)::r=>by
    have ih:=kW f g v r;rw[show nO f v ((k,x)::r)=(if k=f then(k,v)::r else(k,x)::nO f v r) from rfl];by_cases hk:k=f
    · rw[if_pos hk];by_cases h:g=k
      · have hb:(g==k)=true:=beq_iff_eq.mpr h;simp only[List.lookup,hb,if_pos (h.trans hk)]
      · have hb:(g==k)=false:=beq_eq_false_iff_ne.mpr h;simp only[List.lookup,hb,if_neg (fun e:g=f=>h (e.trans hk.symm))]
    · rw[if_neg hk];by_cases h:g=k
      · have hb:(g==k)=true:=beq_iff_eq.mpr h;simp only[List.lookup,hb,if_neg (fun e:g=f=>hk (h.symm.trans e))]
      · have hb:(g==k)=false:=beq_eq_false_iff_ne.mpr h;simp only[List.lookup,hb];exact ih
theorem su(f:Str)(v:V):∀fs:List (Str×V),f∈(nO f v fs).map (·.1)/\∀g,g∈fs.map (·.1)->g∈(nO f v fs).map (·.1)
  | []=>⟨by simp[nO],fun g h=>by simp at h⟩
  | (k,x)::r=>by
    obtain⟨i1,i2⟩:=su f v r;rw[show nO f v ((k,x)::r)=(if k=f then(k,v)::r else(k,x)::nO f v r) from rfl];by_cases hk:k=f
    · rw[if_pos hk];subst hk;exact⟨by simp,fun g h=>by simpa using h⟩
    · rw[if_neg hk];refine⟨?_,fun g h=>?_⟩
      · rw[List.map_cons];exact List.mem_cons_of_mem _ i1
      · rw[List.map_cons] at h⊢;rcases List.mem_cons.mp h with e | e
        · exact List.mem_cons.mpr (.inl e)
        · exact List.mem_cons_of_mem _ (i2 g e)
theorem sZ(f:Str)(v:V):∀fs:List (Str×V),(nO f v fs).length<=fs.length+1
  | []=>by simp[nO]
  | (k,x)::r=>by
    have ih:=sZ f v r;rw[show nO f v ((k,x)::r)=(if k=f then(k,v)::r else(k,x)::nO f v r) from rfl];by_cases hk:k=f
    · rw[if_pos hk,List.length_cons,List.length_cons];omega
    · rw[if_neg hk,List.length_cons,List.length_cons];omega
theorem wG.some_of {v:V} {o:Option Value} (r:wG (some v) o):∃u,o=some u/\RelV v u:=by
 cases o with
 | none=>exact(show False from r).elim
 | some u=>exact⟨u,Z,r⟩
theorem wG.none_of {o:Option Value} (r:wG none o):o=none:=by
 cases o with
 | none=>rfl
 | some u=>exact(show False from r).elim
theorem FP{v:V}{u:Value}(r:RelV v u):W.handedIn u=true:=by
 cases v with
 | non=>cases(show u=Value.none from r);rfl
 | bl b=>cases(show u=Value.bool b from r);rfl
 | int i=>obtain⟨t,e⟩:=(show ∃t,u=Value.int i t from r);cases e;rfl
 | str x=>obtain⟨t,e⟩:=(show ∃t,u=Value.str x t from r);cases e;rfl
 | byt b=>obtain⟨t,e⟩:=(show ∃t,u=Value.bytes b t from r);cases e;rfl
 | flt b=>obtain⟨t,e⟩:=(show ∃t,u=Value.float b t from r);cases e;rfl
 | ref a=>cases(show u=Value.ref a from r);rfl
 | ty n=>cases(show u=Value.type n from r);rfl
section
variable{P:Program}{w:World}{H H':Hp}{h h':Heap}{a C dx:Addr}{fs fs':List (Str×V)}
theorem uv(hok:tM P w H h)(e:H a=some (.ins C dx fs)):∃mA,Dp h a dx C mA/\(∀f,wG (fs.lookup f) (mA f))/\PySem.Within mA (fs.map (·.1))/\fs.length<=1000/\H dx=some (.own a):=by obtain⟨d,z,ne,ob,mA,n,r,q⟩:=(show dO P w H h a (.ins C dx fs) from hok a _ e);exact⟨mA,⟨ob,n,ne⟩,r,q,z,d⟩
end
structure GF(K:W.Frag)(C:Addr):Prop where
 pg:W.plainGet K C Str.empty=true
 hd:W.hasDictIn K C=true
 po:W.plainOver K C=true
 sa:W.findIn K (.ref C) "__setattr__"=some (some (.builtin "object.__setattr__"))
theorem GF.get {K:W.Frag} {C:Addr} (c:GF K C) (f:Str):W.plainGet K C f=true:=c.pg
noncomputable def qw(K:W.Frag)(C:Addr)(f:Str):Prop:=W.findIn K (.ref C) f=some none
theorem qw.taker {K:W.Frag} {C:Addr} {f:Str} (n:qw K C f):W.takerIn K C f=some none:=by unfold W.takerIn;rw[show W.findIn K (.ref C) f=some none from n];rfl
structure Meth(K:W.Frag)(C:Addr)(m:Str)(f:Addr):Prop where
 at_:W.findIn K (.ref C) m=some (some (.ref f))
 fn:W.isFn K (.ref f)=true
 kp:W.keepIn K (.ref f)=true
section
variable{X:Cx}{pins:List (Addr×Obj)}{σ:St}{H:Hp}{s:Shared}{a C dx:Addr}{fs:List (Str×V)}{f:Str}{v:V}{A:Around}{E:Value->Shared->Prop}
theorem CP{b:Bool}{Q:Value->Shared->Prop}(I:Inv X pins σ H s)(e:H a=some (.ins C dx fs))(c:GF X.K C)(n:qw X.K C f)(l:fs.lookup f=some v)(h:∀u s',Inv X pins σ H s'->RelV v u->Q u s'):wpAny (model X.prog X.w) A (getAttr (.ref a) f b) Q E s:=by obtain⟨mA,O,r,_,_,_⟩:=uv I.hok e;obtain⟨u,hu,ru⟩:=wG.some_of (v:=v) (o:=mA f) (by rw[<-l];exact r f);exact Kf I.kIn O (c.get f) c.hd n hu (FP ru) (h u _ (I.tok _) ru)
theorem uQ{m:Str}{g:Addr}{pl:Sem Bool}{Q:Value×List Value->Shared->Prop}(I:Inv X pins σ H s)(e:H a=some (.ins C dx fs))(c:GF X.K C)(k:Meth X.K C m g)(l:fs.lookup m=none)(h:Q (.ref g,[.ref a]) s):wpAny (model X.prog X.w) A (getMethod (.ref a) m pl) Q E s:=by obtain⟨mA,O,r,_,_,_⟩:=uv I.hok e;have hn:mA m=none:=wG.none_of (by rw[<-l];exact r m);exact HS I.kIn O (c.get m) k.at_ k.fn hn h
theorem CN{y:V}{u:Value}{Q:Unit->Shared->Prop}(I:Inv X pins σ H s)(e:H a=some (.ins C dx fs))(c:GF X.K C)(n:qw X.K C f)(hl:fs.length<1000)(ry:RelV y u)(h:∀s',Inv X pins σ (upd H a (.ins C dx (nO f y fs))) s'->Q () s'):wpAny (model X.prog X.w) A (setAttr (.ref a) f u) Q E s:=by
 obtain⟨mA,O,r,wi,_,ho⟩:=uv I.hok e;have hz:(fs.map (·.1)).length<=sizeLine:=by rw[List.length_map,sizeLine_eq];omega
 refine Lp I.kIn O c.sa c.po n.taker c.hd wi hz fun h' O' sb=>h _ ?_;have hd:∃o,h'.get? dx=some o:=let⟨o,_,_,e',_⟩:=O'.ns;⟨o,e'⟩;refine I.write (x:=a) (e:=dx) (by rw[e];exact True.intro) (.inr ho) (fun b q hb z=>(sb.2 b hb).trans z) hd ?_;refine⟨by rw[aB O.ne];exact ho,?_,O.ne,O'.obj,_,O'.ns,fun g=>?_,fun g hg=>?_⟩
 ·have:=sZ f y fs;omega
 ·show wG ((nO f y fs).lookup g) (if g=f then some u else mA g);rw[kW];by_cases q:g=f
  ·rw[if_pos q,if_pos q];exact ry
  ·rw[if_neg q,if_neg q];exact r g
 ·by_cases q:g=f
  ·rw[q];exact(su f y fs).1
  ·refine(su f y fs).2 g (wi g fun z=>hg ?_);show(if g=f then some u else mA g)=none;rw[if_neg q];exact z
theorem Inv.made (I:Inv X pins σ H s):Inv X pins σ (upd (upd H s.heap.objs.size (.own (s.heap.objs.size+1))) (s.heap.objs.size+1) (.ins C s.heap.objs.size []))
  {s with heap:=(s.heap.push W.emptyDict).push (W.instObj C s.heap.objs.size)}:=by
 have e1:(s.heap.push W.emptyDict).get? s.heap.objs.size=some W.emptyDict:=Heap.get?_push_size s.heap Z
 have e2:((s.heap.push W.emptyDict).push (W.instObj C s.heap.objs.size)).get? (s.heap.objs.size+1)=some (W.instObj C s.heap.objs.size):=by
  have:=Heap.get?_push_size (s.heap.push W.emptyDict) (o:=W.instObj C s.heap.objs.size) Z
  rwa [Heap.size_push] at this
 have e3:(s.heap.push W.emptyDict).Ns s.heap.objs.size (fun _=>none):=⟨W.emptyDict,#[],_,e1,Z,(fun e he=>absurd he (by simp)),fun _=>Z⟩;have I1:=I.laid (a:=s.heap.objs.size) (o:= .own (s.heap.objs.size+1)) (h':=s.heap.push W.emptyDict) (t':=s.toks) (fun b u q=>Heap.get?_push_of_some _ q) (Nat.le_refl _) ⟨_,e1⟩;refine I1.laid (a:=s.heap.objs.size+1) (o:= .ins C s.heap.objs.size []) (t':=s.toks) (fun b u q=>Heap.get?_push_of_some _ q) (Nat.le_of_eq (Heap.size_push _ _)) ?_;have ne:s.heap.objs.size≠s.heap.objs.size+1:=Nat.ne_of_lt (Nat.lt_succ_self _);refine⟨by rw[aB ne,ak],Nat.zero_le _,ne,e2,fun _=>none,(Heap.Ns1.of_empty e3).at fun o q=>Heap.get?_push_of_some _ q,fun _=>True.intro,fun y hy=>absurd Z hy⟩
theorem J3{prog:Program}{w:World}{env:Env}{e:Expr}{f:Str}{pos:Pos}{s:Shared}{Q:Value->Shared->Prop}(hb:attributeBase e f env (eval e env)=eval e env)(h:wpAny (model prog w) A (eval e env) (fun o s₁=>wpAny (model prog w) A (getAttr o f true) Q E s₁) E s):wpAny (model prog w) A (eval (.Attribute e f pos) env) Q E s:=
 Attribute_any_ h (by rw[arm_eval_Attribute,hb])
end
noncomputable def Rm(K:W.Frag)(ta:TE)(f:Str):TE:=fun σ H Q=>ta σ H fun x H1=>∃a C dx fs v,x= .ref a/\H1 a=some (.ins C dx fs)/\GF K C/\qw K C f/\fs.lookup f=some v/\Q v H1
noncomputable def QL(K:W.Frag)(ta tv:TE)(f:Str):TS:=fun D σ H=>tv σ H fun y H1=>ta σ H1 fun x H2=>∃a C dx fs,x= .ref a/\H2 a=some (.ins C dx fs)/\GF K C/\qw K C f/\fs.length<1000/\
 D.nx σ (upd H2 a (.ins C dx (nO f y fs)))
section
variable{X:Cx}{o e value:Expr}{f:Str}{pos pos' tpos:Pos}{ta tv:TE}
theorem sr(he:PE X e ta)(hb:attributeBase e f X.env (eval e X.env)=eval e X.env):PE X (.Attribute e f pos) (Rm X.K ta f):=by intro pins s σ H Q I h;refine J3 hb (dF (he pins s σ H _ I h) fun u s1 ⟨x,H1,I1,rx,a,C,dx,fs,v,ex,ea,c,n,l,q⟩=>?_);subst ex;obtain rfl:u=Value.ref a:=rx;exact CP I1 ea c n l fun u' s2 I2 ru=>⟨v,H1,I2,ru,q⟩
theorem Nb(ha:PE X o ta)(hv:PE X value tv)(hs:swapsWith value (some (.Attribute o f pos')) pos.line X.env=pure false):PS X (.Assign [.Attribute o f pos'] value pos) (QL X.K ta tv f):=by intro pins s σ H D I h;refine plainObj_wpAny_Assign_Attribute (dF (hv pins s σ H _ I h) fun u s1 ⟨y,H1,I1,ry,q⟩=>dF (ha pins s1 σ H1 _ I1 q) fun ov s2 ⟨x,H2,I2,rx,a,C,dx,fs,ex,ea,c,n,l,q2⟩=>?_) hs;subst ex;obtain rfl:ov=Value.ref a:=rx;exact CN I2 ea c n l ry fun s3 I3=>⟨σ,_,I3,q2⟩
end
section
variable{X:Cx}{pins:List (Addr×Obj)}{σ:St}{H:Hp}{s:Shared}{A:Around}{E:Value->Shared->Prop}{Q:Value->Shared->Prop}{c:Value}{b:Bool}
inductive qH(K:W.Frag)(H:Hp):V->Value->Prop where
 | non:qH K H .non (.type "NoneType")
 | bl (x:Bool):qH K H (.bl x) (.type "bool")
 | int (i:Int):qH K H (.int i) (.type "int")
 | str (x:Str):qH K H (.str x) (.type "str")
 | flt (x:UInt64):qH K H (.flt x) (.type "float")
 | lst {a:Addr} {xs:List V} (e:H a=some (.lst xs)):qH K H (.ref a) (.type "list")
 | frz {a:Addr} {o:Obj} {xs:List V} (e:H a=some (.frz o (.lst xs))):qH K H (.ref a) (.type "list")
 | tup {a:Addr} {xs:List V} (e:H a=some (.tup xs)):qH K H (.ref a) (.type "tuple")
 | dK {a:Addr} {kvs:List (Key×V)} (e:H a=some (.dK kvs)):qH K H (.ref a) (.type "dict")
 | dT {a:Addr} {kvs:List (List Key×V)} (e:H a=some (.dT kvs)):qH K H (.ref a) (.type "dict")
 | ins {a C dx:Addr} {fs:List (Str×V)} (e:H a=some (.ins C dx fs)) (cl:GF K C) (ha:W.findIn K (.ref C) "__class__"=some (some (.builtin "object.__class__")))
   (hn:W.specialIn K (.builtin "object.__class__") "__get__"=some (some (.builtin "getset_descriptor.__get__"))) (htk:W.takesIn K (.builtin "object.__class__")=some true)
   (hm:W.mroIn K C (.type "object")=some true):qH K H (.ref a) (.ref C)
theorem Ge{x:V}{u t:Value}(I:Inv X pins σ H s)(rx:RelV x u)(ty:qH X.K H x t)(e:W.kitOne X.K t c=some b)(h:∀tk,Q (.bool b) {s with toks:=tk}):
  wpAny (model X.prog X.w) A (call (.builtin "isinstance") [u,c]) Q E s:=by
 cases ty with
 | non=>cases(show u=Value.none from rx);exact W.kia_one W.kitx_none I.kIn True.intro e (fun z=>nomatch z) h
 | bl y=>cases(show u=Value.bool y from rx);exact W.kia_one W.kitx_bool I.kIn True.intro e (fun z=>nomatch z) h
 | int i=>obtain⟨t,q⟩:=(show ∃t,u=Value.int i t from rx);cases q;exact W.kia_one W.kitx_int I.kIn True.intro e (fun z=>nomatch z) h
 | str y=>obtain⟨t,q⟩:=(show ∃t,u=Value.str y t from rx);cases q;exact W.kia_one W.kitx_str I.kIn True.intro e (fun z=>nomatch z) h
 | flt y=>obtain⟨t,q⟩:=(show ∃t,u=Value.float y t from rx);cases q;exact W.kia_one W.kitx_float I.kIn True.intro e (fun z=>nomatch z) h
 | @lst a xs ea=>
  cases(show u=Value.ref a from rx);obtain⟨_,_,n,_,h1⟩:=(show dO X.prog X.w H s.heap a (.lst xs) from I.hok a _ ea);exact W.kia_one W.kitx_list I.kIn ⟨_,h1,Z⟩ e (fun z=>nomatch z) h
 | @frz a ob xs ea=>
  cases(show u=Value.ref a from rx);obtain⟨_,_,_,n,_,h1⟩:=(show dO X.prog X.w H s.heap a (.frz ob (.lst xs)) from I.hok a _ ea);exact W.kia_one W.kitx_list I.kIn ⟨_,h1,Z⟩ e (fun z=>nomatch z) h
 | @tup a xs ea=>
  cases(show u=Value.ref a from rx);obtain⟨_,_,_,p⟩:=(show dO X.prog X.w H s.heap a (.tup xs) from I.hok a _ ea);obtain⟨o,h1,h2,_⟩:=p;exact W.kia_one W.kitx_tuple I.kIn ⟨o,h1,h2⟩ e (fun z=>nomatch z) h
 | @dK a kvs ea=>
  cases(show u=Value.ref a from rx);obtain⟨_,_,vs,_,p⟩:=(show dO X.prog X.w H s.heap a (.dK kvs) from I.hok a _ ea);obtain⟨o,es,ep,h1,h2,_⟩:=p;exact W.kia_one W.kitx_dict I.kIn ⟨o,h1,h2.1⟩ e (fun z=>nomatch z) h
 | @dT a kvs ea=>
  cases(show u=Value.ref a from rx);obtain⟨_,_,xs,_,o,es,ep,h1,h2,_⟩:=(show dO X.prog X.w H s.heap a (.dT kvs) from I.hok a _ ea);exact W.kia_one W.kitx_dict I.kIn ⟨o,h1,h2.1⟩ e (fun z=>nomatch z) h
 | @ins a C dx fs ea cl ha hn htk hm=>
  cases(show u=Value.ref a from rx);obtain⟨mA,O,_⟩:=uv I.hok ea;obtain⟨od,J,_⟩:=O.look;exact W.kia_one (W.kitx_own (cl.get _) cl.hd ha hn htk hm) I.kIn J e (fun z=>nomatch z) h
end
structure dD(k:Nat)(A:Around):Prop where
 hd:A.handled=none
 dp:A.depth+3 * k+5<recursionLimit
 un:A.units+16 * k+200<cLine
 gd:A.guards=some []
theorem dD.mono {j k:Nat} {A:Around} (r:dD k A) (h:j<=k):dD j A:=⟨r.hd,by have:=r.dp;omega,by have:=r.un;omega,r.gd⟩
theorem dD.deeper {k:Nat} {A:Around} (r:dD (k+1) A) (env:Env):dD k (A.deeper env):=
 ⟨r.hd,by have:=r.dp;show A.depth+1+3 * k+5<_;omega,by have:=r.un;show A.units+3+16 * k+200<_;omega,r.gd⟩
theorem dD.in1 {k:Nat} {A:Around} (r:dD (k+1) A):dD k A.in1:=
 ⟨r.hd,by have:=r.dp;show A.depth+3 * k+5<_;omega,by have:=r.un;show A.units+1+16 * k+200<_;omega,r.gd⟩
theorem Di{A:Around}{C:Addr}{us:List Value}{kw:List (Str×Value)}:(A.under (.builtin "type.__call__" ⟨.ref C::us,kw⟩)).depth=A.depth+1:=by
 first | rfl | simp[Around.under,Code.weight,Code.isCreation,Code.isGuard,Code.isCaller,Code.frames,Code.isFrame,guardIds]
theorem BK{A:Around}{C:Addr}{us:List Value}{kw:List (Str×Value)}:(A.under (.builtin "type.__call__" ⟨.ref C::us,kw⟩)).units=A.units+1:=by
 first | rfl | simp[Around.under,Code.cUnits,Code.frames,Code.isFrame]
theorem dD.make {k:Nat} {A:Around} (r:dD (k+1) A) (C:Addr) (us:List Value) (kw:List (Str×Value)):dD k (A.under (.builtin "type.__call__" ⟨.ref C::us,kw⟩)):=
 ⟨r.hd,by have:=r.dp;rw[Di];omega,by have:=r.un;rw[BK];omega,by first | exact r.gd | simp[Around.under,pushGuards,Code.guards,Code.isGuard,guardIds,r.gd]⟩
theorem dD.depth {k:Nat} {A:Around} (r:dD k A):A.depth<recursionLimit:=by have:=r.dp;omega
theorem dD.units {k:Nat} {A:Around} (r:dD k A):A.units+64<cLine:=by have:=r.un;omega
noncomputable def nU:TA:=fun _ H Q=>Q [] H
noncomputable def iY(ta:TE)(tr:TA):TA:=fun σ H Q=>ta σ H fun x H1=>tr σ H1 fun xs H2=>Q (x::xs) H2
section
variable{X:Cx}{e:Expr}{es:List Expr}{te:TE}{t:TA}{pos:Pos}
theorem aj:PA X [] nU:=fun _ _ _ _ H Q I h=>Calls.spliced_nil ⟨[],H,I,.nil,h⟩
theorem aa(ha:PE X e te)(hr:PA X es t)(hs:starEach (e::es) X.env=(false,eval e X.env)::starEach es X.env:=by rfl):PA X (e::es) (iY te t):=by intro pos pins s σ H Q I h;rw[hs];show wpAny _ _ (spliced ((false,eval e X.env)::backTo pos (starEach es X.env))) _ _ s;refine Calls.spliced_cons (dF (ha pins s σ H _ I h) fun u s1 ⟨x,H1,I1,r1,q1⟩=>?_);exact dF (hr pos pins s1 σ H1 _ I1 q1) fun us s2 ⟨xs,H2,I2,r2,q2⟩=>⟨x::xs,H2,I2,.cons r1 r2,q2⟩
noncomputable def Rj(t:TA):TE:=fun σ H Q=>t σ H fun xs H1=>xs.length<=sizeLine/\∀p,H1 p=none->Q (.ref p) (upd H1 p (.tup xs))
noncomputable def OJ(t:TA):TE:=fun σ H Q=>t σ H fun xs H1=>xs.length<=sizeLine/\∀p,H1 p=none->Q (.ref p) (upd H1 p (.lst xs))
theorem bZ{x1}(h:PA X es t):PE X (.Tuple es x1 pos) (Rj t):=by intro pins s σ H Q I hq;refine wpAny_Tuple_spliced (dF (h pos pins s σ H _ I hq) fun us s1 ⟨xs,H1,I1,r,z,q⟩=>⟨by rw[<-r.length];exact z,?_⟩);have hf:H1 s1.heap.objs.size=none:=I1.hok.fresh (Nat.le_refl _);refine⟨.ref s1.heap.objs.size,upd H1 s1.heap.objs.size (.tup xs),I1.laid (t':=s1.toks) (fun b u e=>Heap.get?_push_of_some _ e) (Nat.le_refl _) ?_,Z,q _ hf⟩;exact⟨z,us,r,⟨_,Heap.get?_push_size _ Z,Z,_,Z⟩⟩
theorem bW(h:PA X es t):PE X (.List es pos) (OJ t):=by intro pins s σ H Q I hq;refine wpAny_List_spliced (dF (h pos pins s σ H _ I hq) fun us s1 ⟨xs,H1,I1,r,z,q⟩=>⟨by rw[<-r.length];exact z,?_⟩);have hf:H1 s1.heap.objs.size=none:=I1.hok.fresh (Nat.le_refl _);refine⟨.ref s1.heap.objs.size,upd H1 s1.heap.objs.size (.lst xs),I1.laid (t':=s1.toks) (fun b u e=>Heap.get?_push_of_some _ e) (Nat.le_refl _) ?_,Z,q _ hf⟩;exact⟨z,us,0,r,Heap.get?_push_size _ Z⟩
end
noncomputable abbrev Sp:=List V->Hp->VK->XK->Prop
noncomputable abbrev Gy:=List Env->Hp->Shared->XK->Value->Shared->Prop
structure pC(P:Program)(w:World)(K:W.Frag)(mg:Str->Option Value)(base:Heap)(A:Around)(outer:List Env)(s:Shared)(H:Hp):Prop where
 frames:A.frames=some outer
 mod:Mod K mg base
 bs:∀b o,base.get? b=some o->s.heap.get? b=some o/\H b=none
 bsz:base.objs.size<=s.heap.objs.size
 funs:s.heap.FunFrames base outer
 frf:∀b∈frs outer,H b=none
 hok:tM P w H s.heap
 bare:AllBare s.gens
noncomputable def CE(outer:List Env)(P:Program)(w:World)(H:Hp)(s:Shared)(Q:VK)(u:Value)(s':Shared):Prop:=
 ∃v H',s'.os=s.os/\AllBare s'.gens/\Un (frs outer) [] H H' s.heap s'.heap/\tM P w H' s'.heap/\RelV v u/\Q v H'
noncomputable def CR(CX:Gy)(outer:List Env)(P:Program)(w:World)(H:Hp)(s:Shared)(Q:VK)(E:XK)(r:Result)(s':Shared):Prop:=
 match r with
 | .ok (.ret u)=>CE outer P w H s Q u s'
 | .ok _=>False
 | .error e=>CX outer H s E e s'
structure bD(P:Program)(w:World)(K:W.Frag)(mg:Str->Option Value)(base:Heap)(CX:Gy)(k:Nat)(f:Addr)(fd:FuncData)(ps:List Str)(sp:Sp):Prop where
 len:∀vs H Q E,sp vs H Q E->vs.length=ps.length
 run:∀(A:Around)(outer:List Env)(s:Shared)(H:Hp)(args:Args)(us:List Value)(vs:List V)(Q:VK)(E:XK),dD k A->pC P w K mg base A outer s H->BindsTo s fd args (ps.zip us)->Vals vs us->sp vs H Q E->
  codeAny (model P w) A (.call (.ref f) args) (CR CX outer P w H s Q E) s
theorem pC.make {P : Program} {w : World} {K : W.Frag} {mg : Str -> Option Value} {base : Heap} {A : Around} {outer : List Env} {s : Shared} {H : Hp} (e : pC P w K mg base A outer s H) (C : Addr) (us : List Value) (kw : List (Str × Value)) :
    pC P w K mg base (A.under (.builtin "type.__call__" ⟨.ref C::us,kw⟩)) outer s H:=⟨by first | exact e.frames | (simpa[Around.under,Code.envs,Code.isFrame,pushEnvs] using e.frames),e.mod,e.bs,e.bsz,e.funs,e.frf,e.hok,e.bare⟩
theorem pC.in1 {P:Program} {w:World} {K:W.Frag} {mg:Str->Option Value} {base:Heap} {A:Around} {outer:List Env} {s:Shared} {H:Hp} (e:pC P w K mg base A outer s H):
  pC P w K mg base A.in1 outer s H:=⟨e.frames,e.mod,e.bs,e.bsz,e.funs,e.frf,e.hok,e.bare⟩
section
variable{X:Cx}{pins:List (Addr×Obj)}{σ:St}{H:Hp}{s s':Shared}
theorem Inv.env0 (I:Inv X pins σ H s):pC X.prog X.w X.K X.mg X.base X.A X.stack s H:=
 ⟨I.ok.frames,I.ok.mod,I.bs,Nat.le_trans I.ok.bsz I.sz,I.stack,I.stkFree,I.hok,I.bare⟩
theorem Inv.after {Q:VK} {u:Value} (I:Inv X pins σ H s) (h:CE X.stack X.prog X.w H s Q u s'):EP X pins σ Q u s':=by obtain⟨v,H',os,bare,un,hok,r,q⟩:=h;obtain⟨hh,g,d,t,os'⟩:=s';obtain rfl:os'=s.os:=os;exact⟨v,H',I.call (h':=hh) (g':=g) (d':=d) (t':=t) (ch:=[]) un hok bare (fun b z=>absurd z (by simp)),r,q⟩
end
noncomputable def vd(sp:Sp)(dvs:List V)(E:XK)(t:TA):TE:=fun σ H Q=>t σ H fun vs H1=>sp (vs++dvs) H1 Q E
noncomputable def Ly(C:Addr)(m:Str)(sp:Sp)(dvs:List V)(E:XK)(ta:TE)(t:TA):TE:=fun σ H Q=>ta σ H fun x H1=>∃a dx fs,x= .ref a/\H1 a=some (.ins C dx fs)/\fs.lookup m=none/\
 t σ H1 fun vs H2=>sp (x::(vs++dvs)) H2 Q E
noncomputable def Binds(K:W.Frag)(fd:FuncData)(ps:List Str)(ds:List Value):Prop:=
 ∀(s:Shared)(us:List Value),K.In s.heap->(us++ds).length=ps.length->BindsTo s fd ⟨us,[]⟩ (ps.zip (us++ds))
theorem Binds.all {K:W.Frag} {fd:FuncData} {ps:List Str} (h:∀us:List Value,us.length=ps.length->bindArgs fd ⟨us,[]⟩=pure (ps.zip us)):Binds K fd ps []:=fun s us _ hl=>by rw[List.append_nil] at hl⊢;exact .of_eq (h us hl)
noncomputable def uA(CX:Gy)(X:Cx)(E:XK):Prop:=∀(pins:List (Addr×Obj))(σ:St)(H:Hp)(s:Shared)(e:Value)(s':Shared),Inv X pins σ H s->CX X.stack H s E e s'->X.xe e s'
section
variable{X:Cx}{CX:Gy}{k:Nat}{f C:Addr}{fd:FuncData}{ps:List Str}{sp:Sp}{dvs:List V}{ds:List Value}{E:XK}{x m:Str}{p pos apos:Pos}{e o:Expr}{es:List Expr}{ta:TE}{t:TA}
theorem BZ{pins:List (Addr×Obj)}{σ:St}{H:Hp}{s:Shared}{Q:VK}{us:List Value}{vs:List V}(F:bD X.prog X.w X.K X.mg X.base CX k f fd ps sp)(hr:dD k X.A)(hb:Binds X.K fd ps ds)(hd:Vals dvs ds)(hx:uA CX X E)(I:Inv X pins σ H s)(r:Vals vs us)(h:sp (vs++dvs) H Q E):wpAny (model X.prog X.w) X.A (call (.ref f) us) (EP X pins σ Q) X.xe s:=by
 have r2:Vals (vs++dvs) (us++ds):=r.append hd;have hl:(us++ds).length=ps.length:=by rw[<-r2.length];exact F.len _ _ _ _ h
 refine wpAny_call (codeAny_mono (F.run X.A X.stack s H ⟨us,[]⟩ (us++ds) (vs++dvs) Q E hr I.env0 (hb s us I.kIn hl) r2 h) fun r s' hq=>?_);cases r with
 | error e=>exact hx pins σ H s e s' I hq
 | ok fl=>
  cases fl with
  | ret u=>exact I.after hq
  | next=>exact False.elim hq
  | brk=>exact False.elim hq
  | cont=>exact False.elim hq
theorem Kq(F:bD X.prog X.w X.K X.mg X.base CX k f fd ps sp)(hr:dD k X.A)(hg:Gl X x)(hm:X.mg x=some (.ref f))(hk:W.keepIn X.K (.ref f)=true)(hb:Binds X.K fd ps ds)(hd:Vals dvs ds)(hx:uA CX X E)(ha:PA X (e::es) t)(hdb:(x==("__debug__":Str))=false:=by decide)(he:starEach (e::es) X.env=(false,eval e X.env)::starEach es X.env:=by rfl)(hpl:(backTo pos (starEach es X.env)).any (·.1)=false:=by rfl):
  PE X (.Call (.Name x p) (e::es) [] pos) (vd sp dvs E t):=by
 intro pins s σ H Q I h;refine wpAny_Call_Name_kw (mQ I hg hm ?_ hdb);refine W.callWith_K (h₀:=X.base) I.ok.mod.kin hk (dF (ha pos pins s σ H _ I h) fun us s1 ⟨vs,H1,I1,r,q⟩=>⟨I1.kIn,?_⟩) he hpl;exact BZ F hr hb hd hx I1 r q
theorem JG{pl:Sem Bool}(he:PE X o ta)(c:GF X.K C)(hm:Meth X.K C m f)(F:bD X.prog X.w X.K X.mg X.base CX k f fd ps sp)(hr:dD k X.A)(hb:Binds X.K fd ps ds)(hd:Vals dvs ds)(hx:uA CX X E)(ht:eval (.Call (.Attribute o m apos) [] [] pos) X.env=(do
   let ov <-eval o X.env
   standAt apos.atName
   let(f,first) <-holding [ov] (getMethod ov m pl)
   callWith pos f first (backTo pos (starEach [] X.env)) (backToKw pos (keywordEach [] X.env))):=by rfl):
  PE X (.Call (.Attribute o m apos) [] [] pos) (Ly C m sp dvs E ta nU):=by
 intro pins s σ H Q I h;refine W.methodCall_KW (pl:=pl) (dF (he pins s σ H _ I h) fun u s1 ⟨x,H1,I1,rx,a,dx,fs,ex,ea,l,q⟩=>?_) ht;subst ex;obtain rfl:u=Value.ref a:=rx;refine uQ I1 ea c hm l ?_;exact W.callWith_K0 (first:=[.ref a]) I1.kIn hm.kp (BZ (us:=[.ref a]) (vs:=[.ref a]) F hr hb hd hx I1 (.cons Z .nil) q)
structure Mk(K:W.Frag)(C f:Addr):Prop where
 makes:W.makesIn K C=true
 init:W.findIn K (.ref C) "__init__"=some (some (.ref f))
 fn:W.isFn K (.ref f)=true
 kp:W.keepIn K (.ref C)=true
end
section
variable{X:Cx}{CX:Gy}{k:Nat}{f C:Addr}{fd:FuncData}{ps ks:List Str}{sp:Sp}{E:XK}{x m:Str}{p pos apos kpos:Pos}{e o:Expr}{es:List Expr}{kws:List Keyword}{te ta:TE}{t tk:TA}{nm:Option Str}
variable{g:List Value->List Value->List Value}{gV:List V->List V->List V}
end
structure aL(N P:List Str)(sc:Scope):Prop where
 kind:sc.kind= .function
 co:sc.isCoroutine=false
 gen:sc.isGenerator=false
 nd:N.Nodup
 pre:N.take P.length=P
 par:∀x∈P,sc.names.lookup x=some .local\/sc.names.lookup x=some .cell
 nofree:∀y∈sc.names,y.2≠ .free
theorem xq{kindOf:Str->Option NameKind}{x:Str}:∀{binds:List (Str×Value)}{m:Str->Option Value},(∀v,(x,v)∉binds)->bindL kindOf binds m x=m x
  | [],_,_=>Z
  | (n,v)::r,m,h=>by
    unfold bindL;rw[xq fun w hw=>h w (List.mem_cons_of_mem _ hw)]
    split
    · have:x≠n:=by rintro rfl;exact h v List.mem_cons_self
      simp[this]
    · rfl
theorem xY{kindOf:Str->Option NameKind}{x:Str}:∀{binds:List (Str×Value)}{m:Str->Option Value},(∀v,(x,v)∉binds)->bindC kindOf binds m x=m x
  | [],_,_=>Z
  | (n,v)::r,m,h=>by
    unfold bindC;rw[xY fun w hw=>h w (List.mem_cons_of_mem _ hw)]
    split
    · rfl
    · have:x≠n:=by rintro rfl;exact h v List.mem_cons_self
      simp[this]
theorem xN{kindOf:Str->Option NameKind}{x:Str}{v:Value}:∀{P:List Str}{vs:List Value}{i:Nat}{m:Str->Option Value},P.Nodup->P[i]? =some x->vs[i]? =some v->kindOf x=some .local->
  bindL kindOf (P.zip vs) m x=some v
 | [],_,_,_,_,h,_,_=>by simp at h
 | _::_,[],_,_,_,_,h,_=>by simp at h
 | p::P,w::vs,0,m,nd,h1,h2,hk=>by simp at h1 h2;subst h1;subst h2;show bindL kindOf ((p,w)::P.zip vs) m p=_;unfold bindL;rw[xq fun v hv=>(List.nodup_cons.mp nd).1 (List.of_mem_zip hv).1,if_pos hk];simp
 | p::P,w::vs,i+1,m,nd,h1,h2,hk=>by show bindL kindOf ((p,w)::P.zip vs) m x=_;unfold bindL;exact xN (i:=i) (List.nodup_cons.mp nd).2 (by simpa using h1) (by simpa using h2) hk
theorem xr{kindOf:Str->Option NameKind}{x:Str}{v:Value}:∀{P:List Str}{vs:List Value}{i:Nat}{m:Str->Option Value},P.Nodup->P[i]? =some x->vs[i]? =some v->kindOf x≠some .local->
  bindC kindOf (P.zip vs) m x=some v
 | [],_,_,_,_,h,_,_=>by simp at h
 | _::_,[],_,_,_,_,h,_=>by simp at h
 | p::P,w::vs,0,m,nd,h1,h2,hk=>by simp at h1 h2;subst h1;subst h2;show bindC kindOf ((p,w)::P.zip vs) m p=_;unfold bindC;rw[xY fun v hv=>(List.nodup_cons.mp nd).1 (List.of_mem_zip hv).1,if_neg hk];simp
 | p::P,w::vs,i+1,m,nd,h1,h2,hk=>by show bindC kindOf ((p,w)::P.zip vs) m x=_;unfold bindC;exact xr (i:=i) (List.nodup_cons.mp nd).2 (by simpa using h1) (by simpa using h2) hk
noncomputable def start(N:List Str)(vs:List V):St:=vs.map some++List.replicate (N.length - vs.length) none
noncomputable def jx(CX:Gy)(P:Program)(w:World)(K:W.Frag)(mg:Str->Option Value)(base:Heap)(N:List Str)(qual:Str)(scope:Scope)(f:Addr)(cd:Value)(A:Around)(outer:List Env)(s:Shared)(H:Hp)(E:XK):Cx where
 prog:=P
 w:=w
 K:=K
 mg:=mg
 base:=base
 A:=A.deeper (envOfC qual scope s.heap.objs.size f cd)
 N:=N
 s₀:=s
 H₀:=H
 env:=envOfC qual scope s.heap.objs.size f cd
 outer:=outer
 stack:=envOfC qual scope s.heap.objs.size f cd::outer
 ex:=[]
 calm:=true
 fn:=fun _=>true
 pn:=[]
 xe:=fun e s'=>wpAny (model P w) (A.deeper (envOfC qual scope s.heap.objs.size f cd)) (leaving (envOfC qual scope s.heap.objs.size f cd) e) (fun _ s''=>CX outer H s E e s'') (fun e' s''=>CX outer H s E e' s'') s'
theorem uI{sc:Scope}{n:Nat}{x:Str}(h:sc.names.lookup x=some .cell):∃c,(cellsFrom n sc.names []).lookup x=some c:=by have q:=W.cellsFrom_some sc.names n [] (.inl h);exact Option.isSome_iff_exists.mp q
theorem xR{CX:Gy}{P:Program}{w:World}{K:W.Frag}{mg:Str->Option Value}{base:Heap}{N ps:List Str}{qual:Str}{scope:Scope}{f:Addr}{cd:Value}{A:Around}{outer:List Env}{s s1:Shared}{H:Hp}{E:XK}{us:List Value}{vs:List V}(S:aL N ps scope)(hd:A.handled=none)(e0:pC P w K mg base A outer s H)(hl:vs.length=ps.length)(r:Vals vs us)(x:InCallC s s.heap.objs.size (bindL (envOfC qual scope s.heap.objs.size f cd).kindOf (ps.zip us) fun _=>none) (cellsFrom (s.heap.objs.size+1) scope.names []) (bindC (envOfC qual scope s.heap.objs.size f cd).kindOf (ps.zip us) fun _=>none) s1):
  Inv (jx CX P w K mg base N qual scope f cd A outer s H E) [] (start N vs) H s1:=by
 have hpl:ps.length<=N.length:=by have:=congrArg List.length S.pre;rw[List.length_take] at this;omega
 obtain⟨h1,tk,rfl,hk⟩:=x.done;have noA:∀b:Addr,b∉(jx CX P w K mg base N qual scope f cd A outer s H E).ex:=fun b z=>absurd (show b∈([]:List Addr) from z) (by simp)
 refine⟨⟨e0.mod,S.kind,Z,Z,Nat.le_refl _,fun y z c h1 h2=>?_,fun y hy=>?_,fun y c _ h=>?_,fun _=>hd,Around.frames_deeper e0.frames,.inr ⟨Z,Z⟩,fun b z=>absurd z (noA b),e0.bs,e0.bsz,fun b _ _=>noA b,fun b z=>absurd z (noA b),e0.funs,e0.frf⟩,
  Z,e0.bare,Un.kept hk,⟨_,x.toInCall.ns,fun i y v h1 h2 h3=>?_⟩,fun y c h=>⟨_,x.cell y c h⟩,e0.hok.fresh (Nat.le_refl _),fun y c h=>?_,fun p hp=>absurd (show p∈([]:List (Addr×Obj)) from hp) (by simp),e0.hok.kept hk,?_⟩
 ·exact name_of_addr x.apart (PySem.mem_of_lookup h1) (PySem.mem_of_lookup h2)
 ·have hy:scope.names.lookup y=some .cell\/scope.names.lookup y=some .free:=hy;rcases hy with hy | hy
  ·exact uI hy
  ·exact absurd Z (S.nofree _ (PySem.mem_of_lookup hy))
 ·exact Nat.le_of_lt (x.above y c (PySem.mem_of_lookup h))
 ·have hi:i<vs.length:=by
   unfold start at h2;by_cases hi:i<vs.length
   ·exact hi
   ·rw[List.getElem?_append_right (by simpa using hi)] at h2;rw[List.getElem?_replicate] at h2
    split at h2<;>cases h2
  have ha:vs[i]? =some v:=by
   unfold start at h2;rw[List.getElem?_append_left (by simpa using hi),List.getElem?_map] at h2;cases e:vs[i]? with
   | none=>rw[e] at h2;cases h2
   | some a=>rw[e] at h2;cases h2;rfl
  obtain⟨u,hu,rv⟩:=r.get ha
  have hp:ps[i]? =some y:=by rw[<-S.pre,List.getElem?_take_of_lt (by omega)];exact h1
  have ndP:ps.Nodup:=by rw[<-S.pre];exact S.nd.sublist (List.take_sublist _ _)
  refine⟨u,rv,?_⟩;rcases S.par y (List.mem_of_getElem? hp) with k | k
  ·exact .inl ⟨k,xN ndP hp hu k⟩
  ·obtain⟨c,e⟩:=uI (n:=s.heap.objs.size+1) k;refine .inr ⟨.inl k,c,e,?_⟩;have q:=x.cell y c e;rw[xr ndP hp hu (by show scope.names.lookup y≠_;rw[k];decide)] at q;exact q
 ·exact e0.hok.fresh (Nat.le_of_lt (x.above y c (PySem.mem_of_lookup h)))
 ·unfold start;show _=N.length;rw[List.length_append,List.length_map,List.length_replicate];omega
theorem DY{CX:Gy}{P:Program}{w:World}{K:W.Frag}{mg:Str->Option Value}{base:Heap}{k:Nat}{f:Addr}{name qual:Str}{params:Arguments}{body:List Stmt}{scope:Scope}{dV kV doc pm cdv ct oc:Value}{an od:Option Addr}{osl:Array (Option Value)}{N ps:List Str}{sp:Sp}(lk:K.lookup f=some ⟨oc,od,.func (W.fnOf name qual params body scope dV kV doc pm an cdv ct),osl⟩)(hcd:W.codeIn K cdv qual=true)(S:aL N ps scope)(len:∀vs H Q E,sp vs H Q E->vs.length=ps.length)(hbody:∀(A:Around)(outer:List Env)(s:Shared)(H:Hp)(vs:List V)(Q:VK)(E:XK),dD k (A.deeper (envOfC qual scope s.heap.objs.size f cdv))->sp vs H Q E->
   ∃t,qz (jx CX P w K mg base N qual scope f cdv A outer s H E) body t/\t {nx:=fun _ H'=>Q .non H',rt:=Q} (start N vs) H):
  bD P w K mg base CX (k+1) f (W.fnOf name qual params body scope dV kV doc pm an cdv ct) ps sp:=by
 refine⟨len,fun A outer s H args us vs Q E hr e0 hb r hsp=>?_⟩;have hl:=len _ _ _ _ hsp;have KX:K.In s.heap:=e0.mod.kin.keeps fun b o e=>(e0.bs b o e).1;have lim:s.heap.NoLimit:=e0.mod.nolimit.keeps fun b o e=>(e0.bs b o e).1
 have hkind:∀y∈ps.zip us,scope.names.lookup y.1=some .local\/(scope.names.lookup y.1=some .cell/\((cellsFrom (s.heap.objs.size+1) scope.names []).lookup y.1).isSome=true):=fun⟨n,v⟩ hy=>by
  rcases S.par n (List.of_mem_zip hy).1 with q | q
  ·exact .inl q
  ·exact .inr ⟨q,W.cellsFrom_some _ _ _ (.inl q)⟩
 refine codeAny_call_function hr.depth (KX _ _ lk) Z S.co S.gen Z (W.codeRec_of KX hcd) (hb _ _ _ _ ?_);refine wpAny_newFunctionEnv_cells S.kind hkind fun env he s1 x=>?_;subst he;refine⟨lim.keeps x.toInCall.keep,codeAny_func ?_⟩;obtain⟨t,ht,hq⟩:=hbody A outer s H vs Q E (hr.deeper _) hsp;have I:Inv (jx CX P w K mg base N qual scope f cdv A outer s H E) [] (start N vs) H s1:=xR S hr.hd e0 hl r x;refine wpAny_mono (ht [] s1 (start N vs) H _ I hq) (fun fl s' hs=>?_) fun e s' hs=>hs
 have fin:∀{σ':St}{H':Hp}{v:V}{u:Value},Inv (jx CX P w K mg base N qual scope f cdv A outer s H E) [] σ' H' s'->RelV v u->Q v H'->CE outer P w H s Q u s':=
  fun{σ' H' v u} J rv q=>⟨v,H',J.os,J.bare,J.base,J.hok,rv,q⟩
 cases fl with
 | ret u=>
  obtain⟨v,σ',H',J,rv,q⟩:=hs;exact fin J rv q
 | next=>
  obtain⟨σ',H',J,q⟩:=hs;exact fin (v:=V.non) (u:=Value.none) J Z q
 | brk=>
  obtain⟨_,_,_,q⟩:=hs;exact False.elim q
 | cont=>
  obtain⟨_,_,_,q⟩:=hs;exact False.elim q
section
variable{X:Cx}{x:Str}{p pos:Pos}{e:Expr}{es:List Expr}{t:TA}{id T:String}{r:List V->Hp->VK->Prop}
noncomputable def Ny(r:List V->Hp->VK->Prop)(t:TA):TE:=fun σ H Q=>t σ H fun vs H1=>r vs H1 Q
theorem aR(hc:iR X (.builtin id) r)(hg:Gl X x)(hm:X.mg x=none)(hv:bootBuiltins x=some (.builtin id))(ha:PA X (e::es) t)(hn:x≠"__name__":=by decide)(hdb:(x==("__debug__":Str))=false:=by decide)(he:starEach (e::es) X.env=(false,eval e X.env)::starEach es X.env:=by rfl)(hpl:(backTo pos (starEach es X.env)).any (·.1)=false:=by rfl):PE X (.Call (.Name x p) (e::es) [] pos) (Ny r t):=by intro pins s σ H Q I h;refine wpAny_Call_Name_kw (nW I hg hm hv ?_ hn hdb);exact PyProof.Rows.callWith_builtin1 (dF (ha pos pins s σ H _ I h) fun us s1 ⟨vs,H1,I1,r1,q1⟩=>hc pins s1 σ H1 vs us Q I1 r1 q1) he hpl
theorem dh(hc:iR X (.type T) r)(hg:Gl X x)(hm:X.mg x=none)(hv:bootBuiltins x=some (.type T))(ha:PA X (e::es) t)(hn:x≠"__name__":=by decide)(hdb:(x==("__debug__":Str))=false:=by decide)(he:starEach (e::es) X.env=(false,eval e X.env)::starEach es X.env:=by rfl)(hpl:(backTo pos (starEach es X.env)).any (·.1)=false:=by rfl):PE X (.Call (.Name x p) (e::es) [] pos) (Ny r t):=by intro pins s σ H Q I h;refine wpAny_Call_Name_kw (nW I hg hm hv ?_ hn hdb);exact PyProof.Rows.callWith_type1 (dF (ha pos pins s σ H _ I h) fun us s1 ⟨vs,H1,I1,r1,q1⟩=>hc pins s1 σ H1 vs us Q I1 r1 q1) he hpl
end
end L2
namespace HT
open PySem PyProof.Rows
noncomputable def lexLt:List Int->List Int->Bool
 | [],[]=>false
 | [],_::_=>true
 | _::_,[]=>false
 | x::xs,y::ys=>if x=y then lexLt xs ys else decide (x<y)
theorem lexLt_cons(x y:Int)(xs ys:List Int):lexLt (x::xs) (y::ys)=if x=y then lexLt xs ys else decide (x<y):=rfl
theorem lexLt_nil_nil:lexLt [] []=false:=rfl
theorem uX(y:Int)(ys:List Int):lexLt [] (y::ys)=true:=rfl
theorem uU(x:Int)(xs:List Int):lexLt (x::xs) []=false:=rfl
theorem Hl(A:Around)(s:Shared)(a:Int)(t:Tok)(c:Int)(u:Tok):∃e,SeqAt.EqAt A s (.int a t) (.int c u) e/\(e=true↔a=c):=
 ⟨(a==c),SeqAt.EqAt.int_int a t c u,by simp⟩
theorem GR(A:Around)(s:Shared)(a:Int)(t:Tok)(c:Int)(u:Tok)(prog:Program)(w:World)(E:Value->Shared->Prop)(Q:Value->Shared->Prop)(h:Q (.bool (decide (a<c))) s):
  wpAny (model prog w) A (richCompare .Lt (.int a t) (.int c u)) Q E s:=
 (PyProof.Rows.lt_int h:wpAny (model prog w) A (compareOp .Lt (.int a t) (.int c u)) Q E s)
section
open PySem.SeqAt
open PySem.AutoSeq1 (wpAny_loadPart')
open PySem.MeetsSeq PySem.MeetsSeq2 PySem.MeetsSeq3
theorem wJ(l b:Addr)(items items2:Array Value)(n n2:Nat)(dd dd2:Option Addr)(sl sl2:Array (Option Value))(ns ms:List Int)(hi:IntsAre items.toList ns)(hj:IntsAre items2.toList ms):
  Meets (Builtin.«tuple.__lt__» ⟨[.ref l,.ref b],[]⟩)
   (fun _ R s=>s.heap.get? l=some {cls:= .type "tuple",dict:=dd,data:= .seq items n,slots:=sl}/\s.heap.get? b=some {cls:= .type "tuple",dict:=dd2,data:= .seq items2 n2,slots:=sl2}/\
    R (.ok (.ret (.bool (lexLt ns ms)))) s):=
 .of_wp fun prog w A R s h=>by
  obtain⟨hp,g,d,tk,os⟩:=s;obtain⟨hl,hb,h⟩:=h;have f2:=AutoSeq1.sub_tuple_tuple;have z1:items.size=ns.length:=by rw[<-hi.length];simp
  have z2:items2.size=ms.length:=by rw[<-hj.length];simp
  wp_walk using wpAny_loadPart' hl,wpAny_loadPart' hb,wpAny_forIn_list _ (fun rest b s'=>b.1=none/\s'=⟨hp,g,d,tk,os⟩/\∃(vs ws:List Value)(ns' ms':List Int),rest=vs.zip ws/\
   IntsAre vs ns'/\IntsAre ws ms'/\ns'.length+items2.size=ms'.length+items.size/\R (.ok (.ret (.bool (lexLt ns' ms')))) ⟨hp,g,d,tk,os⟩) _
  case turn=>
   rintro⟨y,x⟩ rest b s' ⟨hb',rfl,vs,ws,ns',ms',hz,hvi,hwi,hlen,hR⟩;cases hvi with
   | nil=>rw[List.zip_nil_left] at hz;cases hz
   | cons a t hvi'=>
    cases hwi with
    | nil=>rw[List.zip_nil_right] at hz;cases hz
    | cons c u hwi'=>
     rw[List.zip_cons_cons] at hz;injection hz with hyx hrest
     injection hyx with hy hx
     subst hy hx;rw[lexLt_cons] at hR;simp only[List.length_cons] at hlen;obtain⟨e,he,hiff⟩:=Hl A.in1 ⟨hp,g,d,tk,os⟩ a t c u;refine wpAny_bind (he prog w _ _ ?_);cases e with
     | true=>
      rw[if_pos (hiff.mp rfl)] at hR
      wp_walk
      exact⟨Z,Z,_,_,_,_,hrest,hvi',hwi',by omega,hR⟩
     | false=>
      rw[if_neg (fun q=>absurd (hiff.mpr q) Bool.false_ne_true)] at hR;have hri:=GR A.in1 ⟨hp,g,d,tk,os⟩ a t c u prog w
      wp_walk using hri
      exact⟨_,Z,by simpa using hR⟩
  case fin=>
   rintro⟨b1,b2⟩ s' ⟨hb',rfl,vs,ws,ns',ms',hz,hvi,hwi,hlen,hR⟩;simp only at hb';subst hb'
   have hv:lexLt ns' ms'=decide (items.size<items2.size):=by
    cases hvi with
    | nil=>
     cases hwi with
     | nil=>
      simp only[List.length_nil] at hlen;rw[lexLt_nil_nil];exact(decide_eq_false (by omega)).symm
     | cons c u hw=>
      simp only[List.length_nil,List.length_cons] at hlen;rw[uX];exact(decide_eq_true (by omega)).symm
    | cons a t hv=>
     cases hwi with
     | nil=>
      simp only[List.length_nil,List.length_cons] at hlen;rw[uU];exact(decide_eq_false (by omega)).symm
     | cons c u hw=>
      rw[List.zip_cons_cons] at hz;cases hz
   rw[hv] at hR
   wp_walk
   exact⟨_,Z,by simpa[Builtin.Tuple.tupleCompareSizes] using hR⟩
  case h=>
   exact⟨Z,Z,items.toList,items2.toList,ns,ms,Z,hi,hj,by omega,h⟩
end
section
variable{prog:Program}{w:World}{A:Around}{E:Value->Shared->Prop}{s:Shared}
theorem lt_tupInts{l b:Addr}{items items2:Array Value}{ns ms:List Int}{Q:Value->Shared->Prop}(hl:IsTup s.heap l items)(hb:IsTup s.heap b items2)(hi:IntsAre items.toList ns)(hj:IntsAre items2.toList ms)(hu:A.units<cLine)(h:Q (.bool (lexLt ns ms)) s):wpAny (model prog w) A (compareOp .Lt (.ref l) (.ref b)) Q E s:=by
 obtain⟨⟨cls,dd,data,sl⟩,ho,hc,n,hd⟩:=id hl;obtain⟨⟨cls2,dd2,data2,sl2⟩,ho2,hc2,n2,hd2⟩:=id hb;simp only at hc hd hc2 hd2;subst hc hd hc2 hd2
 exact richCompare_meets_room (op:= .Lt) ⟨_,ho,Z⟩ ⟨_,ho2,Z⟩ PySem.F.slot_tuple_lt PySem.F.entry_tuple_lt (PySem.F.args_tuple_lt_2 _ _) (wJ l b items items2 n n2 dd dd2 sl sl2 ns ms hi hj)
  ⟨ho,ho2,show Value.bool (lexLt ns ms)≠Value.notImplemented/\Q (.bool (lexLt ns ms)) s from⟨(fun x=>nomatch x),h⟩⟩ hu
noncomputable def sIx(n d:Nat):Option Int->Nat
 | none=>d
 | some v=>if v<0 then(v+(n:Int)).toNat else min v.toNat n
theorem sIx_none(n d:Nat):sIx n d none=d:=rfl
theorem sIx_nat(n d k:Nat):sIx n d (some (k:Int))=min k n:=by show(if(k:Int)<0 then((k:Int)+(n:Int)).toNat else min (k:Int).toNat n)=min k n;rw[if_neg (by omega),Int.toNat_natCast]
end
end HT
namespace L2
open PySem PySem.Spec PyProof.Rows
noncomputable abbrev TO:=St->Hp->(Option Int->Hp->Prop)->Prop
noncomputable def PO(X:Cx)(e:Option Expr)(t:TO):Prop:=
 ∀(pins:List (Addr×Obj))(s:Shared)(σ:St)(H:Hp)(Q:Option Int->Hp->Prop),Inv X pins σ H s->t σ H Q->
  wpAny (model X.prog X.w) X.A (evalPart e X.env) (fun u s'=>∃o H',Inv X pins σ H' s'/\IsPart u o/\Q o H') X.xe s
noncomputable def K8:TO:=fun _ H Q=>Q none H
noncomputable def Qu(t:TE):TO:=fun σ H Q=>t σ H fun x H1=>∃i,x= .int i/\Q (some i) H1
theorem intsAre_of{ns:List Int}:∀{us:List Value},Vals (ns.map V.int) us->IntsAre us ns:=by
 induction ns with
 | nil=>intro us r;rw[List.map_nil] at r;cases r;exact .nil
 | cons n ns ih=>
  intro us r;rw[List.map_cons] at r;cases r with
  | cons r1 r2=>
   obtain⟨t,e⟩:=r1;subst e;exact .cons n t (ih r2)
section
variable{X:Cx}{e:Expr}{te:TE}{lo hi:Option Expr}{tl th:TO}{pos p2:Pos}
theorem iM:PO X none K8:=by intro pins s σ H Q I h;rw[evalPart_none];exact wpAny_pure ⟨none,H,I,.none,h⟩
theorem iy(h:PE X e te):PO X (some e) (Qu te):=by intro pins s σ H Q I hw;rw[evalPart_some];refine dF (h pins s σ H _ I hw) fun u s1 ⟨x,H1,I1,r1,q1⟩=>?_;obtain⟨i,rfl,q⟩:=q1;obtain⟨t,rfl⟩:=r1;exact⟨some i,H1,I1,.int i t,q⟩
noncomputable def QW(X:Cx)(r:V->Option Int->Option Int->Hp->VK->Prop):Prop:=
 ∀(pins:List (Addr×Obj))(s:Shared)(σ:St)(H:Hp)(x:V)(v vl vu:Value)(lo hi:Option Int)(sl:Addr)(Q:VK),Inv X pins σ H s->RelV x v->s.heap.IsSliceOf sl vl vu .none->IsPart vl lo->IsPart vu hi->r x lo hi H Q->
  ∃T id,typeLookup (.type T) "__getitem__"=pure (some (.builtin id))/\s.TypeIs v T/\wpAny (model X.prog X.w) X.A (getItem v (.ref sl)) (EP X pins σ Q) X.xe s
noncomputable def Sy(r:V->Option Int->Option Int->Hp->VK->Prop)(te:TE)(tl th:TO):TE:=fun σ H Q=>te σ H fun x H1=>tl σ H1 fun l H2=>th σ H2 fun u H3=>r x l u H3 Q
theorem fX{r:V->Option Int->Option Int->Hp->VK->Prop}(hr:QW X r)(he:PE X e te)(hl:PO X lo tl)(hu:PO X hi th):PE X (.Subscript e (.Slice lo hi none p2) pos) (Sy r te tl th):=by intro pins s σ H Q I h;refine Subscript_ (dF (he pins s σ H _ I h) fun v s1 ⟨x,H1,I1,r1,q1⟩=>?_);refine wpAny_Slice (dF (hl pins s1 σ H1 _ I1 q1) fun vl s2 ⟨l,H2,I2,pl,q2⟩=>dF (hu pins s2 σ H2 _ I2 q2) fun vu s3 ⟨u,H3,I3,pu,q3⟩=>?_);rw[evalPart_none];refine wpAny_pure ?_;have I4:Inv X pins σ H3 {s3 with heap:=s3.heap.push {cls:= .type "slice",data:= .fields #[vl,vu,.none]}}:=I3.kept (t':=s3.toks) fun b ob q=>Heap.get?_push_of_some _ q;obtain⟨T,id,hT,ht,hg⟩:=hr pins {s3 with heap:=s3.heap.push {cls:= .type "slice",data:= .fields #[vl,vu,.none]}} σ H3 x v vl vu l u s3.heap.objs.size Q I4 r1 (Heap.IsSliceOf.new ..) pl pu q3;show wpAny (model X.prog X.w) X.A (subscriptTail e (.Slice lo hi none p2) v (.ref s3.heap.objs.size)) (EP X pins σ Q) X.xe {s3 with heap:=s3.heap.push {cls:= .type "slice",data:= .fields #[vl,vu,.none]}};exact tail_any (ops:=[.ref s3.heap.objs.size,v]) ht hT hg (by with_unfolding_all rfl)
noncomputable def cH(xs:List V)(lo hi:Option Int):List V:=(xs.drop (HT.sIx xs.length 0 lo)).take (HT.sIx xs.length xs.length hi - HT.sIx xs.length 0 lo)
theorem ik(xs:List V)(lo hi:Option Int):(cH xs lo hi).length<=xs.length:=by unfold cH;rw[List.length_take,List.length_drop];omega
end
noncomputable def Jh(n:Nat)(i:Int):Option Nat:=if 0<=i then(if i<n then some i.toNat else none) else if -(n:Int)<=i then some (i+n).toNat else none
noncomputable def GJ{α:Type}(xs:List α)(i:Int):Option α:=(Jh xs.length i).bind fun j=>xs[j]?
theorem Ey{n:Nat}{i:Int}{j:Nat}(h:Jh n i=some j):seqIndex? i n=some j/\j<n/\ -(n:Int)<=i/\i<n:=by
 unfold Jh at h;by_cases h0:0<=i
 ·rw[if_pos h0] at h;by_cases h1:i<n
  ·rw[if_pos h1] at h;have e:i.toNat=j:=Option.some.inj h;exact⟨by rw[seqIndex_of h0 h1,e],by omega,by omega,h1⟩
  ·rw[if_neg h1] at h;cases h
 ·rw[if_neg h0] at h;by_cases h1: -(n:Int)<=i
  ·rw[if_pos h1] at h;have e:(i+n).toNat=j:=Option.some.inj h;exact⟨by rw[seqIndex_neg (by omega) h1,e],by omega,h1,by omega⟩
  ·rw[if_neg h1] at h;cases h
theorem Em{α:Type}{xs:List α}{i:Int}{v:α}(h:GJ xs i=some v):∃j,seqIndex? i xs.length=some j/\xs[j]? =some v/\j<xs.length/\ -(xs.length:Int)<=i/\i<xs.length:=by
 unfold GJ at h;cases e:Jh xs.length i with
 | none=>rw[e] at h;cases h
 | some j=>
  rw[e] at h;obtain⟨h1,h2,h3,h4⟩:=Ey e;exact⟨j,h1,h,h2,h3,h4⟩
theorem aQ{α:Type}{xs:List α}{j:Nat}{v:α}(h:xs[j]? =some v):GJ xs (j:Int)=some v:=by
 have hj:j<xs.length:=(List.getElem?_eq_some_iff.mp h).1
 have e:Jh xs.length (j:Int)=some j:=by unfold Jh;rw[if_pos (by omega),if_pos (by omega)];simp
 unfold GJ;rw[e];exact h
noncomputable def KQ(b:Expr):Prop:=∀o i,subscripted b false o i=operate [o,i] (getItem o i)
noncomputable def Qa(X:Cx)(r:R2):Prop:=
 ∀(value slice:Expr)(pins:List (Addr×Obj))(s:Shared)(σ:St)(H:Hp)(x y:V)(v u:Value)(Q:VK),Inv X pins σ H s->RelV x v->RelV y u->r x y H Q->
  subscripted slice false v u=operate [v,u] (getItem v u)->wpAny (model X.prog X.w) X.A (subscriptTail value slice v u) (EP X pins σ Q) X.xe s
noncomputable def Qi(X:Cx)(id:String)(r:V->List V->Hp->VK->Prop):Prop:=
 ∀(pins:List (Addr×Obj))(s:Shared)(σ:St)(H:Hp)(x:V)(xs:List V)(v:Value)(us:List Value)(Q:VK),Inv X pins σ H s->RelV x v->Vals xs us->r x xs H Q->
  wpAny (model X.prog X.w) X.A (call (.builtin id) (v::us)) (EP X pins σ Q) X.xe s
section
variable{X:Cx}{a b:Expr}{ta tb:TE}{pos:Pos}
theorem bw{r:R2}(hr:Qa X r)(ha:PE X a ta)(hb:PE X b tb)(hs:KQ b):PE X (.Subscript a b pos) (Py r ta tb):=by intro pins s σ H Q I h;exact Subscript_ (N8 ha hb I h fun v u s2 x y H2 I2 rx ry q=>hr a b pins s2 σ H2 x y v u Q I2 rx ry q (hs _ _))
noncomputable def O9(K:W.Frag):R2:=fun x y H Q=>∃p xs i v,x= .ref p/\y= .int i/\aP K H p xs/\GJ xs i=some v/\Q v H
noncomputable def Qo(K:W.Frag):R2:=fun x y H Q=>∃p xs i v,x= .ref p/\y= .int i/\d7 K H p xs/\GJ xs i=some v/\Q v H
theorem J0:Qa X (O9 X.K):=by
 intro value slice pins s σ H x y v u Q I rx ry h hs;obtain⟨p,xs,i,z,rfl,rfl,hq,he,q⟩:=h;cases rx;obtain⟨t,rfl⟩:=ry;obtain⟨its,r,pl,hz⟩:=I.list hq;obtain⟨j,h1,h2,h3,h4,h5⟩:=Em he;obtain⟨w,ew,rw'⟩:=r.get h2;have hl:=r.length;have hn:=zx;have fin:EP X pins σ Q w s:=⟨z,H,I,rw',q⟩;by_cases h0:0<=i
 ·have hj:i.toNat=j:=by rw[seqIndex_of h0 h5] at h1;exact Option.some.inj h1
  exact item_listR pl.isList h0 (by omega) (by rw[hj];simpa using ew) fin hs
 ·have hj:(i+(its.toArray.size:Int)).toNat=j:=by rw[seqIndex_neg (by omega) h4] at h1;rw[List.size_toArray,<-hl];exact Option.some.inj h1
  exact subscriptTail_builtinR (x:=w) pl.isList.typeIs slot_list_getitem.lookup
   (wpAny_getItem_list_neg (Q:=fun r s'=>r=w/\EP X pins σ Q r s') pl.isList (by omega) (by rw[List.size_toArray]<;>omega) (by omega) (by rw[hj];simpa using ew) ⟨Z,fin⟩) hs
theorem Nh:Qa X (Qo X.K):=by
 intro value slice pins s σ H x y v u Q I rx ry h hs;obtain⟨p,xs,i,z,rfl,rfl,hq,he,q⟩:=h;cases rx;obtain⟨t,rfl⟩:=ry;obtain⟨its,r,pl,hz⟩:=I.tuple hq;obtain⟨j,h1,h2,h3,h4,h5⟩:=Em he;obtain⟨w,ew,rw'⟩:=r.get h2;have hl:=r.length;have hn:=zx;have fin:EP X pins σ Q w s:=⟨z,H,I,rw',q⟩
 exact subscriptTail_builtinR (x:=w) pl.typeIs slot_tuple_getitem.lookup
  (getItem_tuple (j:=j) (Q:=fun r s'=>r=w/\EP X pins σ Q r s') pl (by omega) (by omega) (by rw[List.size_toArray,<-hl];exact h1) (by simpa using ew) ⟨Z,fin⟩) hs
theorem CG(its:List Value)(n j:Nat)(u:Value):Obj.mapSeq (·.setIfInBounds j u) {cls:= .type "list",data:= .seq its.toArray n}={cls:= .type "list",data:= .seq (its.set j u).toArray n}:=by simp[Obj.mapSeq]
theorem Inv.lst {pins:List (Addr×Obj)} {σ:St} {H:Hp} {s:Shared} {p:Addr} {xs:List V} (I:Inv X pins σ H s) (h:H p=some (.lst xs)):
  ∃(its:List Value)(n:Nat),Vals xs its/\s.heap.get? p=some {cls:= .type "list",data:= .seq its.toArray n}/\xs.length<=sizeLine:=by
 obtain⟨z,its,n,r,e⟩:=I.hok p _ h;exact⟨its,n,r,e,z⟩
theorem Inv.lstUpd {pins:List (Addr×Obj)} {σ:St} {H:Hp} {s:Shared} {p:Addr} {xs ys:List V} {its its':List Value} {n n':Nat} {f:Obj->Obj} (I:Inv X pins σ H s) (h:H p=some (.lst xs))
  (ho:s.heap.get? p=some {cls:= .type "list",data:= .seq its.toArray n}) (hf:f {cls:= .type "list",data:= .seq its.toArray n}={cls:= .type "list",data:= .seq its'.toArray n'}) (r:Vals ys its') (hz:ys.length<=sizeLine) (t:Nat):
  Inv X pins σ (upd H p (.lst ys)) {s with heap:=s.heap.update p f,toks:=t}:=by
 have e:(s.heap.update p f).get? p=some {cls:= .type "list",data:= .seq its'.toArray n'}:=by rw[Heap.get?_update_self f ho (by rw[hf]<;>rfl),hf]
 refine I.write (x:=p) (e:=p) (by rw[h];trivial) (.inl Z) (fun b u hb q=>(Heap.get?_update_other _ _ (Ne.symm hb)).trans q) ⟨_,e⟩ ?_;exact⟨hz,its',n',r,e⟩
noncomputable def Ph:V->V->V->Hp->(Hp->Prop)->Prop:=fun o i v H Q=>∃p xs k j,o= .ref p/\i= .int k/\H p=some (.lst xs)/\Jh xs.length k=some j/\Q (upd H p (.lst (xs.set j v)))
theorem set_list:Qn X Ph:=by
 intro pins s σ H o i v ov iv u Q I ro ri rv h;obtain⟨p,xs,k,j,rfl,rfl,hp,hj,q⟩:=h;cases ro;obtain⟨t,rfl⟩:=ri;obtain⟨its,n,r,ho,hz⟩:=I.lst hp;obtain⟨h1,h2,h3,h4⟩:=Ey hj;have hl:=r.length;have hn:=zx
 have I':Inv X pins σ (upd H p (.lst (xs.set j v))) {s with heap:=s.heap.update p (Obj.mapSeq (·.setIfInBounds j u))}:=
  I.lstUpd hp ho (CG its n j u) (r.set rv j) (by rw[List.length_set];exact hz) s.toks
 by_cases h0:0<=k
 ·have hk:k.toNat=j:=by rw[seqIndex_of h0 h4] at h1;exact Option.some.inj h1
  exact W.ki_setAt ho h0 (by omega) (by rw[List.size_toArray,<-hl];exact h4) (by rw[hk];exact⟨_,I',q⟩)
 ·have hk:(k+(its.toArray.size:Int)).toNat=j:=by rw[seqIndex_neg (by omega) h3] at h1;rw[List.size_toArray,<-hl];exact Option.some.inj h1
  exact W.ki_setBack ho (by omega) (by rw[List.size_toArray,<-hl];exact h3) (by omega) (by rw[hk];exact⟨_,I',q⟩)
theorem zB(lo hi:Option Int)(n:Nat):(sliceBounds lo hi none n).1=((HT.sIx n 0 lo:Nat):Int)/\(sliceBounds lo hi none n).2.1=((HT.sIx n n hi:Nat):Int)/\(sliceBounds lo hi none n).2.2=1:=by
 refine⟨?_,?_,Z⟩
 ·cases lo with
  | none=>simp[sliceBounds,HT.sIx]
  | some i=>
   simp only[sliceBounds,HT.sIx,Option.getD_none,show(1:Int)>0 by decide,if_true];by_cases h:i<0
   ·simp only[h,if_true]<;>omega
   ·simp only[h,if_false]<;>omega
 ·cases hi with
  | none=>simp[sliceBounds,HT.sIx]
  | some i=>
   simp only[sliceBounds,HT.sIx,Option.getD_none,show(1:Int)>0 by decide,if_true];by_cases h:i<0
   ·simp only[h,if_true]<;>omega
   ·simp only[h,if_false]<;>omega
theorem ww(its:List Value)(lo hi:Option Int):slicePick its.toArray lo hi none=((its.drop (HT.sIx its.length 0 lo)).take (HT.sIx its.length its.length hi - HT.sIx its.length 0 lo)).toArray:=by obtain⟨h1,h2,h3⟩:=zB lo hi its.toArray.size;unfold slicePick;rw[h1,h2,h3];simp only[sliceRange_one,pick_run,List.size_toArray]<;>rfl
noncomputable def Ql(K:W.Frag):V->Option Int->Option Int->Hp->VK->Prop:=fun x lo hi H Q=>∃a xs,x= .ref a/\aP K H a xs/\∀p,H p=none->Q (.ref p) (upd H p (.lst (cH xs lo hi)))
theorem Lb:QW X (Ql X.K):=by intro pins s σ H x v vl vu lo hi sl Q I rx hs pl pu h;obtain⟨a,xs,rfl,hx,q⟩:=h;cases rx;obtain⟨its,r,ht,hz⟩:=I.list hx;have hlen:=r.length;refine⟨"list",_,slot_list_getitem.lookup,ht.isList.typeIs,?_⟩;refine wpAny_getItem_list_slice ht.isList hs pl pu .none (by simp) ?_ (by rw[List.size_toArray]<;>omega);rw[ww,<-hlen];refine⟨.ref s.heap.objs.size,_,I.laid (t':=s.toks) (o:= .lst (cH xs lo hi)) (fun b ob q=>Heap.get?_push_of_some _ q) (Nat.le_refl _) ?_,Z,q _ (I.hok.fresh (Nat.le_refl _))⟩;exact⟨Nat.le_trans (ik xs lo hi) hz,_,0,(r.drop (HT.sIx xs.length 0 lo)).take (HT.sIx xs.length xs.length hi - HT.sIx xs.length 0 lo),Heap.get?_push_size _ Z⟩
noncomputable def jZ:V->Bool
 | .non=>true
 | .bl _=>true
 | .int _=>true
 | .str _=>true
 | _=>false
noncomputable def JV:V->V->Bool
 | .non,.non=>true
 | .bl a,.bl b=>a==b
 | .bl a,.int b=>(if a then 1 else 0)==b
 | .int a,.bl b=>a==(if b then 1 else 0)
 | .int a,.int b=>a==b
 | .str a,.str b=>a==b
 | _,_=>false
theorem Mp{A:Around}{s:Shared}{y x:V}{u v:Value}(ry:RelV y u)(rx:RelV x v)(fy:jZ y=true)(fx:jZ x=true):SeqAt.EqAt A s u v (JV y x):=by
 cases y with
 | non=>
  cases ry;cases x with
  | non=>cases rx;exact SeqAt.EqAt.same _
  | bl b=>cases rx;exact SeqAt.EqAt.none_bool b
  | int b=>obtain⟨t,rfl⟩:=rx;exact SeqAt.EqAt.none_int b t
  | str b=>obtain⟨t,rfl⟩:=rx;exact SeqAt.EqAt.none_str b t
  | _=>exact absurd (show false=true from fx) Bool.false_ne_true
 | bl a=>
  cases ry;cases x with
  | non=>cases rx;exact SeqAt.EqAt.bool_none a
  | bl b=>cases rx;exact SeqAt.EqAt.bool_bool a b
  | int b=>obtain⟨t,rfl⟩:=rx;exact SeqAt.EqAt.bool_int a b t
  | str b=>obtain⟨t,rfl⟩:=rx;exact SeqAt.EqAt.bool_str a b t
  | _=>exact absurd (show false=true from fx) Bool.false_ne_true
 | int a=>
  obtain⟨t',rfl⟩:=ry;cases x with
  | non=>cases rx;exact SeqAt.EqAt.int_none a t'
  | bl b=>cases rx;exact SeqAt.EqAt.int_bool a t' b
  | int b=>obtain⟨t,rfl⟩:=rx;exact SeqAt.EqAt.int_int a t' b t
  | str b=>obtain⟨t,rfl⟩:=rx;exact SeqAt.EqAt.int_str a t' b t
  | _=>exact absurd (show false=true from fx) Bool.false_ne_true
 | str a=>
  obtain⟨t',rfl⟩:=ry;cases x with
  | non=>cases rx;exact SeqAt.EqAt.str_none a t'
  | bl b=>cases rx;exact SeqAt.EqAt.str_bool a t' b
  | int b=>obtain⟨t,rfl⟩:=rx;exact SeqAt.EqAt.str_int a t' b t
  | str b=>obtain⟨t,rfl⟩:=rx;exact SeqAt.EqAt.str_str a t' b t
  | _=>exact absurd (show false=true from fx) Bool.false_ne_true
 | _=>exact absurd (show false=true from fy) Bool.false_ne_true
theorem yr:iR X (.builtin "len") (fun xs H Q=>∃p ys,xs=[.ref p]/\(aP X.K H p ys\/d7 X.K H p ys)/\Q (.int ys.length) H):=by
 intro pins s σ H xs us Q I r h;obtain⟨p,ys,rfl,hq,q⟩:=h;obtain⟨u,rfl,rx⟩:=vals1 r;cases rx;have hn:=zx;rcases hq with hq | hq
 ·obtain⟨its,r',pl,hz⟩:=I.list hq;have hlen:=r'.length;exact Calls.call_len_list pl.isList (by simp only[List.size_toArray]<;>omega) ⟨.int ys.length,H,I.tok _,⟨s.toks+1,by rw[List.size_toArray,hlen]⟩,q⟩
 ·obtain⟨its,r',pl,hz⟩:=I.tuple hq;have hlen:=r'.length;exact len_tuple pl (by simp only[List.size_toArray]<;>omega) ⟨.int ys.length,H,I.tok _,⟨s.toks+1,by rw[List.size_toArray,hlen]⟩,q⟩
theorem yM:iR X (.type "list") (fun xs H Q=>∃p ys,xs=[.ref p]/\(aP X.K H p ys\/d7 X.K H p ys)/\∀l,H l=none->Q (.ref l) (upd H l (.lst ys))):=by
 intro pins s σ H xs us Q I r h;obtain⟨p,ys,rfl,hq,q⟩:=h;obtain⟨u,rfl,rx⟩:=vals1 r;cases rx
 have fin:∀(its:List Value),Vals ys its->ys.length<=sizeLine->∀(h':Heap)(c':Nat),(∀b o',s.heap.get? b=some o'->h'.get? b=some o')->
   h'.get? s.heap.objs.size=some {cls:= .type "list",dict:=none,data:= .seq its.toArray c',slots:=#[]}->EP X pins σ Q (.ref s.heap.objs.size) {s with heap:=h'}:=fun its r' hz h' c' kp e=>
  ⟨.ref s.heap.objs.size,_,I.laid (t':=s.toks) kp (Nat.le_refl _) (show dO X.prog X.w _ h' _ (.lst ys) from⟨hz,its,c',r',e⟩),Z,q _ (I.hok.fresh (Nat.le_refl _))⟩
 rcases hq with hq | hq
 ·obtain⟨its,r',pl,hz⟩:=I.list hq;have hlen:=r'.length;obtain⟨o,ho,hc,n,hd⟩:=pl.isList;exact call_list_seq p (.inl Z) ho hc hd (fun h' c' kp e=>fin its r' hz h' c' kp e) (by simp only[List.size_toArray]<;>omega)
 ·obtain⟨its,r',pl,hz⟩:=I.tuple hq;have hlen:=r'.length;obtain⟨o,ho,hc,n,hd⟩:=pl;exact call_list_seq p (.inr Z) ho hc hd (fun h' c' kp e=>fin its r' hz h' c' kp e) (by simp only[List.size_toArray]<;>omega)
theorem gH:iR X (.type "tuple") (fun xs H Q=>∃p ys,xs=[.ref p]/\((aP X.K H p ys/\∀l,H l=none->Q (.ref l) (upd H l (.tup ys)))\/(d7 X.K H p ys/\Q (.ref p) H))):=by
 intro pins s σ H xs us Q I r h;obtain⟨p,ys,rfl,h⟩:=h;obtain⟨u,rfl,rx⟩:=vals1 r;cases rx;rcases h with⟨hq,q⟩ | ⟨hq,q⟩
 ·obtain⟨its,r',pl,hz⟩:=I.list hq;have hlen:=r'.length;refine call_tuple_list pl.isList (fun h' kp=>?_) (by simp only[List.size_toArray]<;>omega);have I1:Inv X pins σ H {s with heap:=h'}:=I.kept (t':=s.toks) kp
  have I2:Inv X pins σ (upd H h'.objs.size (.tup ys)) {s with heap:=h'.push {cls:= .type "tuple",data:= .seq its.toArray}}:=
   I1.laid (t':=s.toks) (fun b o e=>Heap.get?_push_of_some _ e) (Nat.le_refl _) (show dO X.prog X.w _ _ _ (.tup ys) from⟨hz,its,r',IsTup.new _ _⟩)
  exact⟨.ref h'.objs.size,_,I2,Z,q _ (I1.hok.fresh (Nat.le_refl _))⟩
 ·obtain⟨its,r',pl,hz⟩:=I.tuple hq;exact call_tuple_same pl ⟨.ref p,H,I,Z,q⟩
noncomputable def QR(K:W.Frag)(T:String)(x:V)(H:Hp):Prop:=match x with
 | .str _=>T="str"
 | .int _=>T="int"
 | .ref p=>(T="list"/\∃xs,aP K H p xs)\/(T="tuple"/\∃o,K.lookup p=some o/\o.cls= .type "tuple"/\o.dict=none)\/
   (T="dict"/\((∃kvs,H p=some (.dK kvs))\/∃kvs,H p=some (.dT kvs)))\/(T="set"/\∃S n,H p=some (.set S n))
 | _=>False
theorem HY{pins:List (Addr×Obj)}{σ:St}{H:Hp}{s:Shared}{T:String}{x:V}{v:Value}(I:Inv X pins σ H s)(r:RelV x v)(ty:QR X.K T x H):
  s.TypeIs v T/\∀a,v= .ref a->∃ob,s.heap.get? a=some ob/\ob.dict=none:=by
 cases x with
 | str z=>
  obtain⟨t,rfl⟩:=r;cases(show T="str" from ty);exact⟨typeIs_str s z t,fun _ e=>nomatch e⟩
 | int i=>
  obtain⟨t,rfl⟩:=r;cases(show T="int" from ty);exact⟨typeIs_int s i t,fun _ e=>nomatch e⟩
 | ref p=>
  cases r;rcases ty with⟨rfl,xs,hq⟩ | ⟨rfl,o,hk,hc,hd⟩ | ⟨rfl,hk⟩ | ⟨rfl,S,n,hk⟩
  ·obtain⟨its,_,pl,_⟩:=I.list hq;refine⟨pl.isList.typeIs,fun a e=>?_⟩;cases e;obtain⟨o,n,e,c,hd,_⟩:=pl;exact⟨o,e,hd⟩
  ·refine⟨⟨o,I.kIn p o hk,hc⟩,fun a e=>?_⟩;cases e;exact⟨o,I.kIn _ o hk,hd⟩
  ·have z:∃o,s.heap.get? p=some o/\o.ExactDict:=by
    rcases hk with⟨kvs,hk⟩ | ⟨kvs,hk⟩
    ·obtain⟨_,_,_,_,o,_,_,e,ex,_⟩:=I.hok p _ hk;exact⟨o,e,ex⟩
    ·obtain⟨_,_,_,_,o,_,_,e,ex,_⟩:=I.hok p _ hk;exact⟨o,e,ex⟩
   obtain⟨o,e,ex⟩:=z;refine⟨⟨o,e,ex.1⟩,fun a e2=>?_⟩;cases e2;exact⟨o,e,ex.2.1⟩
  ·obtain⟨o,_,_,_,e,ex,_⟩:=I.hok p _ hk;refine⟨⟨o,e,ex.1⟩,fun a e2=>?_⟩;cases e2;exact⟨o,e,ex.2.1⟩
 | _=>exact False.elim ty
noncomputable def R1(K:W.Frag)(T:String)(r:V->List V->Hp->VK->Prop)(to:TE):TE:=fun σ H Q=>to σ H fun x H1=>QR K T x H1/\r x [] H1 Q
noncomputable def R8(K:W.Frag)(T:String)(r:V->List V->Hp->VK->Prop)(to:TE)(t:TA):TE:=fun σ H Q=>to σ H fun x H1=>QR K T x H1/\t σ H1 fun xs H2=>r x xs H2 Q
variable{o e:Expr}{es:List Expr}{to:TE}{t:TA}{name:Str}{apos cpos:Pos}{T id:String}{r:V->List V->Hp->VK->Prop}
theorem HD(pa:PlainAttrs T)(slot:Slot T name id)(hty:typeOf (.builtin id)=pure (.type "method_descriptor"))(hm:Qi X id r)(ho:PE X o to)(hbase:attributeBase o name X.env (eval o X.env)=eval o X.env:=by rfl)(hline:(apos.endLine==cpos.line)=true:=by rfl):PE X (.Call (.Attribute o name apos) [] [] cpos) (R1 X.K T r to):=by intro pins s σ H Q I h;refine wpAny_Call_method0_late hbase hline (dF (ho pins s σ H _ I h) fun v s1 ⟨x,H1,I1,r1,ty,q1⟩=>?_);obtain⟨h1,h2⟩:=HY I1 r1 ty;exact⟨T,id,pa,slot,hty,h1,h2,Calls.callWith_builtin Z (PySem.evalArgs_none (hm pins s1 σ H1 x [] v [] Q I1 r1 .nil q1))⟩
theorem ju(pa : PlainAttrs T)(slot : Slot T name id)(hty : typeOf (.builtin id) = pure (.type "method_descriptor"))(hm : Qi X id r)(ho : PE X o to)(ha : PA X (e :: es) t)(hbase:attributeBase o name X.env (eval o X.env)=eval o X.env:=by rfl)(hfew:((backTo cpos (starEach (e::es) X.env)).all (fun x=> !x.1)&&(backToKw cpos (keywordEach [] X.env)).all (fun x=>x.1.isSome)
      &&decide ((e::es).length+([]:List Keyword).length+(if([]:List Keyword).isEmpty then 0 else 1)<30))=true:=by rfl)(hline:(apos.endLine==cpos.line)=true:=by rfl)(hs:starEach (e::es) X.env=(false,eval e X.env)::starEach es X.env:=by rfl)(hplain:(backTo cpos (starEach es X.env)).any (·.1)=false:=by rfl):
    PE X (.Call (.Attribute o name apos) (e::es) [] cpos) (R8 X.K T r to t):=by
  intro pins s σ H Q I h;refine wpAny_Call_method_late hbase hfew hline Z (dF (ho pins s σ H _ I h) fun v s1 ⟨x,H1,I1,r1,ty,q1⟩=>?_);obtain⟨h1,h2⟩:=HY I1 r1 ty;refine⟨T,id,pa,slot,hty,h1,h2,?_⟩;have hA:=ha cpos pins s1 σ H1 _ I1 q1;rw[hs] at hA⊢;refine Calls.callWith_builtin (by show(false||(backTo cpos (starEach es X.env)).any (·.1))=false;rw[hplain]<;>rfl) (Calls.evalArgs_plain ?_);exact dF hA fun us s2 ⟨vs,H2,I2,r2,q2⟩=>hm pins s2 σ H2 x vs v us Q I2 r1 r2 q2
end
noncomputable def Pk(X:Cx)(id:String)(r:V->List V->Hp->VK->Prop):Prop:=
 ∀(pins:List (Addr×Obj))(s:Shared)(σ:St)(H:Hp)(x:V)(xs:List V)(v:Value)(us:List Value)(Q:VK),Inv X pins σ H s->RelV x v->Vals xs us->r x xs H Q->
  wpAny (model X.prog X.w) X.A (call (.builtin id) (v::us)) (EP X pins σ Q) X.xe s
theorem Vals.one:∀{x:V}{us:List Value},Vals [x] us->∃u,us=[u]/\RelV x u
 | _,_,.cons r .nil=>⟨_,Z,r⟩
theorem Vals.zero:∀{us:List Value},Vals [] us->us=[]
 | _,.nil=>Z
theorem Vals.dropLast {xs:List V} {us:List Value} (h:Vals xs us):Vals xs.dropLast us.dropLast:=by
 induction h with
 | nil=>exact .nil
 | cons r t ih=>
  cases t with
  | nil=>exact .nil
  | cons q t'=>exact .cons r ih
theorem Vals.eraseIdx:∀{xs:List V}{us:List Value}(i:Nat),Vals xs us->Vals (xs.eraseIdx i) (us.eraseIdx i)
 | _,_,_,.nil=> .nil
 | _,_,0,.cons _ t=>t
 | _,_,i+1,.cons r t=> .cons r (Vals.eraseIdx i t)
theorem Vals.reverse {xs:List V} {us:List Value} (h:Vals xs us):Vals xs.reverse us.reverse:=by
 induction h with
 | nil=>exact .nil
 | cons r t ih=>rw[List.reverse_cons,List.reverse_cons];exact Vals.append ih (.cons r .nil)
theorem Vals.rep {xs:List V} {us:List Value} (h:Vals xs us):∀k:Nat,Vals (List.replicate k xs).flatten (List.replicate k us).flatten
 | 0=> .nil
 | k+1=>by rw[List.replicate_succ,List.replicate_succ,List.flatten_cons,List.flatten_cons];exact Vals.append h (Vals.rep h k)
theorem Dl{α:Type}(l:List α):l.eraseIdx (l.length - 1)=l.dropLast:=by
 induction l with
 | nil=>rfl
 | cons a r ih=>
  cases r with
  | nil=>rfl
  | cons b r=>
   have e:(a::b::r).length - 1=((b::r).length - 1)+1:=by have h1:(a::b::r).length=r.length+2:=Z;have h2:(b::r).length=r.length+1:=Z;omega
   rw[e,List.eraseIdx_cons_succ,ih]
   all_goals rfl
theorem foldl_rep(its:List Value):∀(k:Nat)(acc:List Value),
  List.foldl (fun x1 x2=>x1++x2) acc.toArray (List.replicate k its.toArray)=(acc++(List.replicate k its).flatten).toArray
 | 0,acc=>by simp
 | k+1,acc=>by
  have e:acc.toArray++its.toArray=(acc++its).toArray:=by simp
  have e2:(acc++its)++(List.replicate k its).flatten=acc++(List.replicate (k+1) its).flatten:=by rw[List.replicate_succ,List.flatten_cons,List.append_assoc]
  rw[<-e2,<-foldl_rep its k (acc++its),<-e,List.replicate_succ,List.foldl_cons]
section
variable{X:Cx}{pins:List (Addr×Obj)}{σ:St}{H:Hp}{s:Shared}{l b:Addr}{xs ys zs:List V}
theorem Inv.lset {its its':List Value} {n:Nat} {f:Array Value->Array Value} {t':Nat} (I:Inv X pins σ H s) (hH:H l=some (.lst xs))
  (e:s.heap.get? l=some {cls:= .type "list",data:= .seq its.toArray n}) (hf:f its.toArray=its'.toArray) (hv:Vals ys its') (hz:ys.length<=sizeLine):
  Inv X pins σ (upd H l (.lst ys)) {s with heap:=s.heap.update l (Obj.mapSeq f),toks:=t'}:=by
 have q:=PySem.IsL.update e f;rw[hf] at q;refine I.write (x:=l) (e:=l) (by rw[hH];exact trivial) (.inl Z) (fun b' u hb hu=>(Heap.get?_update_other s.heap (Obj.mapSeq f) (Ne.symm hb)).trans hu) ⟨_,q⟩ ?_;exact⟨hz,its',_,hv,q⟩
theorem Inv.lnew {its:List Value} {t':Nat} (I:Inv X pins σ H s) (hv:Vals ys its) (hz:ys.length<=sizeLine):
  Inv X pins σ (upd H s.heap.objs.size (.lst ys)) {s with heap:=s.heap.push {cls:= .type "list",data:= .seq its.toArray},toks:=t'}:=
 I.laid (fun _ _ q=>Heap.get?_push_of_some _ q) (Nat.le_refl _) ⟨hz,its,0,hv,Heap.get?_push_size _ Z⟩
theorem Inv.fresh (I:Inv X pins σ H s):H s.heap.objs.size=none:=I.hok.fresh (Nat.le_refl _)
theorem Inv.lstM (I:Inv X pins σ H s) (hH:H l=some (.lst xs)):xs.length<=sizeLine/\∃(its:List Value)(n:Nat),Vals xs its/\xs.length=its.length/\s.heap.get? l=some {cls:= .type "list",data:= .seq its.toArray n}:=by obtain⟨z,its,n,r,e⟩:=I.hok l _ hH;exact⟨z,its,n,r,r.length,e⟩
theorem zL{n:Nat}(h:n<=sizeLine):Builtin.List.listTooLong n=false:=by unfold Builtin.List.listTooLong;exact decide_eq_false (by omega)
end
section
variable{X:Cx}
noncomputable def K6:V->List V->Hp->VK->Prop:=fun x vs H Q=>∃l xs y,x= .ref l/\vs=[y]/\H l=some (.lst xs)/\xs.length<sizeLine/\Q .non (upd H l (.lst (xs++[y])))
theorem dg:Pk X "list.append" K6:=by intro pins s σ H x vs v us Q I rx rv h;obtain⟨l,xs,y,rfl,rfl,hH,hz,q⟩:=h;cases rx;obtain⟨u,rfl,ru⟩:=rv.one;obtain⟨z,its,n,r,hl,e⟩:=I.lstM hH;refine call_meets F.slot_list_append ⟨_,e,Z⟩ F.entry_list_append (F.args_list_append_2 _ _) (PySem.list_append l its.toArray n u (by rw[List.size_toArray];omega)) ⟨e,?_⟩;refine⟨.non,_,I.lset (its':=its++[u]) hH e (by simp) (r.append (.cons ru .nil)) ?_,Z,q⟩;rw[List.length_append,List.length_singleton];omega
noncomputable def J4:V->List V->Hp->VK->Prop:=fun x vs H Q=>∃l b xs zs,x= .ref l/\vs=[.ref b]/\H l=some (.lst xs)/\H b=some (.lst zs)/\xs.length+zs.length<=sizeLine/\Q .non (upd H l (.lst (xs++zs)))
theorem Ga:Pk X "list.extend" J4:=by
 intro pins s σ H x vs v us Q I rx rv h;obtain⟨l,b,xs,zs,rfl,rfl,hH,hB,hz,q⟩:=h;cases rx;obtain⟨u,rfl,ru⟩:=rv.one;cases ru;obtain⟨z,its,n,r,hl,e⟩:=I.lstM hH;obtain⟨z2,its2,n2,r2,hl2,e2⟩:=I.lstM hB;have hsz:its.toArray.size+its2.toArray.size<=sizeLine:=by rw[List.size_toArray,List.size_toArray];omega
 have hlong:¬(!its.toArray.isEmpty&&Builtin.List.listTooLong (its.toArray.size+its2.toArray.size))=true:=by rw[zL hsz,Bool.and_false];exact Bool.false_ne_true
 refine call_meets F.slot_list_extend ⟨_,e,Z⟩ F.entry_list_extend (F.args_list_extend_2 _ _)
  (AutoSeq1.list_extend_list_list_0 l its.toArray n b its2.toArray n2 hlong (by rw[List.size_toArray];omega) (by omega)) ⟨e,e2,?_⟩
 refine⟨.non,_,I.lset (its':=its++its2) hH e (by simp) (r.append r2) ?_,Z,q⟩;rw[List.length_append];omega
noncomputable def Q7:V->List V->Hp->VK->Prop:=fun x vs H Q=>∃l xs y,x= .ref l/\vs=[]/\H l=some (.lst xs)/\xs[xs.length - 1]? =some y/\Q y (upd H l (.lst xs.dropLast))
theorem Mi:Pk X "list.pop" Q7:=by
 intro pins s σ H x vs v us Q I rx rv h;obtain⟨l,xs,y,rfl,rfl,hH,hy,q⟩:=h;cases rx;have hus:=rv.zero;subst hus;obtain⟨z,its,n,r,hl,e⟩:=I.lstM hH;obtain⟨u,hu,ru⟩:=r.get hy
 have hy':its.toArray[its.toArray.size - 1]? =some u:=by show its.toArray[its.length - 1]? =some u;rw[<-Array.getElem?_toList,<-hl];exact hu
 refine call_meets F.slot_list_pop ⟨_,e,Z⟩ F.entry_list_pop (F.args_list_pop_1 _) (MeetsSeq.list_pop_last l its.toArray n u hy' (by rw[List.size_toArray];omega)) ⟨e,?_⟩;refine⟨y,_,I.lset (its':=its.dropLast) hH e ?_ r.dropLast ?_,ru,q⟩
 ·show its.toArray.eraseIdxIfInBounds (its.toArray.size - 1)=its.dropLast.toArray;rw[List.size_toArray,List.eraseIdxIfInBounds_toArray,Dl]
 ·rw[List.length_dropLast];omega
noncomputable def JD:V->List V->Hp->VK->Prop:=fun x vs H Q=>∃l xs,x= .ref l/\vs=[]/\H l=some (.lst xs)/\Q .non (upd H l (.lst xs.reverse))
theorem BL:Pk X "list.reverse" JD:=by intro pins s σ H x vs v us Q I rx rv h;obtain⟨l,xs,rfl,rfl,hH,q⟩:=h;cases rx;have hus:=rv.zero;subst hus;obtain⟨z,its,n,r,hl,e⟩:=I.lstM hH;refine call_meets F.slot_list_reverse ⟨_,e,Z⟩ F.entry_list_reverse (F.args_list_reverse_1 _) (AutoSeq1.list_reverse_list_0 l its.toArray n (by rw[List.size_toArray];omega)) ⟨e,?_⟩;refine⟨.non,_,I.lset (its':=its.reverse) hH e (by simp) r.reverse ?_,Z,q⟩;rw[List.length_reverse];omega
noncomputable def RJ:R2:=fun x y H Q=>∃l b xs zs,x= .ref l/\y= .ref b/\H l=some (.lst xs)/\H b=some (.lst zs)/\xs.length+zs.length<=sizeLine/\∀p,H p=none->Q (.ref p) (upd H p (.lst (xs++zs)))
theorem lM:tE X (binaryOp .Add) RJ:=by
 intro pins s σ H x y v u Q I rx ry h;obtain⟨l,b,xs,zs,rfl,rfl,hH,hB,hz,q⟩:=h;cases rx;cases ry;obtain⟨z,its,n,r,hl,e⟩:=I.lstM hH;obtain⟨z2,its2,n2,r2,hl2,e2⟩:=I.lstM hB;refine PySem.P.add_list e e2 ?_ (by rw[List.size_toArray,List.size_toArray];omega);have ea:its.toArray++its2.toArray=(its++its2).toArray:=by simp
 rw[ea];exact⟨.ref _,_,I.lnew (t':=s.toks) (r.append r2) (by rw[List.length_append];omega),Z,q _ I.fresh⟩
noncomputable def RN:R2:=fun x y H Q=>∃l k xs,x= .ref l/\y= .int k/\H l=some (.lst xs)/\ -(2 ^ 63)<=k/\k<2 ^ 63/\xs.length * k.toNat<=sizeLine/\
 ∀p,H p=none->Q (.ref p) (upd H p (.lst (List.replicate k.toNat xs).flatten))
theorem len_rep{α:Type}(xs:List α)(k:Nat):(List.replicate k xs).flatten.length=k * xs.length:=by
 induction k with
 | zero=>simp
 | succ k ih=>rw[List.replicate_succ,List.flatten_cons,List.length_append,ih,Nat.succ_mul,Nat.add_comm]
theorem Dr:tE X (binaryOp .Mult) RN:=by
 intro pins s σ H x y v u Q I rx ry h;obtain⟨l,k,xs,rfl,rfl,hH,h1,h2,hz,q⟩:=h;cases rx;obtain⟨t,rfl⟩:=ry;obtain⟨z,its,n,r,hl,e⟩:=I.lstM hH;have hlen:its.toArray.size * k.toNat<=sizeLine:=by rw[List.size_toArray,<-hl];exact hz
 have hcap:¬its.toArray.size * k.toNat>(2 ^ 63 - 1) / 8:=by
  have:(sizeLine:Nat)<=(2 ^ 63 - 1) / 8:=by decide
  omega
 have hfit:¬(!Builtin.List.listFitsIndex k)=true:=by rw[fitsIndex_both h1 h2];exact Bool.false_ne_true
 have hlong:¬Builtin.List.listTooLong (its.toArray.size * k.toNat)=true:=by rw[zL hlen];exact Bool.false_ne_true
 have hnew:List.foldl (fun x1 x2=>x1++x2) #[] (List.replicate (if its.toArray.isEmpty=true then 0 else k.toNat) its.toArray)=(List.replicate k.toNat its).flatten.toArray:=by
  have f0:∀m:Nat,List.foldl (fun x1 x2=>x1++x2) #[] (List.replicate m its.toArray)=(List.replicate m its).flatten.toArray:=fun m=>by have:=foldl_rep its m [];rw[List.nil_append] at this;exact this
  rw[f0];cases its with
  | nil=>simp
  | cons a r'=>rw[if_neg (by simp)]
 refine wpAny_binaryOp_repeat_ref (T:="list") (U:="int") (by decide) ⟨_,e,Z⟩ (fun s'=>typeIs_int s' k t) noFill_list_mul F.fills_int_mul F.slot_int_rmul repeat_list F.slot_int_index.lookup
  (call_meets F.slot_int_rmul (typeIs_int s k t) F.entry_int_rmul (F.args_int_rmul_2 _ _) (int___rmul___int_list k t l its.toArray n)
   ⟨e,Z,⟨_,e,Z⟩,call_meets F.slot_list_mul ⟨_,e,Z⟩ F.entry_list_mul (F.args_list_mul_2 _ _) (AutoListH.list___mul___list_int_3 l its.toArray n k t hfit hcap hlong) ⟨e,?_⟩⟩)
 rw[hnew];exact⟨.ref _,_,I.lnew (t':=s.toks) (r.rep k.toNat) (by rw[len_rep,Nat.mul_comm];exact hz),Z,q _ I.fresh⟩
end
end L2
namespace Att
open PySem PySem.W PySem.Calls PyProof.Rows
theorem tZ{P:Params}{h:Heap}:∀(ns:List Int)(vs:List Value),WellAll P h vs (ns.map WData.int)->IntsAre vs ns:=by
 intro ns;induction ns with
 | nil=>
  intro vs w;rw[List.map_nil] at w;cases w;exact .nil
 | cons n ns ih=>
  intro vs w;rw[List.map_cons] at w;cases w with
  | cons a b=>
   cases a;exact .cons _ _ (ih _ b)
theorem Gf{l : OpenLaw}{n : Nat}(hn : l.most = some n){P : Params}{h : Heap}{args : List WData}{vals : List Value}(hpre:l.row.toRowW.claim.pre args=true)(hwl:WellAll P h vals args):
    ∃a vs ns,vals=[Value.ref a]/\args=[WData.list (ns.map WData.int)]/\h.get? a=some {cls:= .type "list",data:= .seq vs.toArray}/\IntsAre vs ns/\ns.length<=n:=by
  have hsh:WShape.hasAll [] args [.list .int]=true:=(pre_splitW hpre).1;have hc:l.pre.holds [] {args:=args}=true:=(pre_splitW hpre).2;obtain⟨d,r,rfl,h1,h2⟩:=hasAllW_cons hsh;obtain rfl:=hasAllW_nil h2;obtain⟨xs,rfl,h3⟩:=hasW_list h1;obtain⟨ns,rfl⟩:=items_int h3
  have hlen:ns.length<=n:=by
    unfold OpenLaw.pre at hc
    have h4:(WTm.not (.lt (.lit (.int (n:Int))) (.len (.arg 0)))).holds [] {args:=[.list (ns.map .int)]}=true:=by have h4:=(holds_andW hc).1;rw[hn] at h4;exact h4
    have h5:=condW_of h4 (w_not (w_lt w_lit (w_len_list (w_arg Z))));rw[List.length_map] at h5;refine Nat.le_of_not_lt fun q=>?_;have q':(n:Int)<((ns.length:Nat):Int):=by omega
    first
      | (rw[decide_eq_true q'] at h5;exact absurd h5 (by decide))
      | (simp at h5;omega)
  cases hwl with
  | cons w1 w2=>
    cases w2;cases w1 with
    | list ho hall=>exact⟨_,_,ns,Z,Z,ho,tZ ns _ hall,hlen⟩
theorem Gj(l:OpenLaw)(args:List WData):l.row.toRowW.claim.post args (.bool true) args=true:=
 postW_of (r:=l.row.toRowW) (X:=(true==true))
  (show WShape.has [] (.bool true) .bool=true by first | rfl | decide | simp[WShape.has,WShape.arms,WShape.armsAll])
  (show(WTm.eq .res (.lit (.bool true))).value [] {args:=args,res:=some (.bool true),after:=args}=some (.bool (true==true)) from w_eq_bool (w_res Z) w_lit) Z
end Att
namespace L2
open PySem PySem.Spec PyProof.Rows
theorem xX:∀{vs:List Value}{ns:List Int},IntsAre vs ns->Vals (ns.map V.int) vs
 | _,_,.nil=> .nil
 | _,_,.cons n t h=> .cons ⟨t,Z⟩ (xX h)
noncomputable def inClass(s:Stmt)(j:Nat):Stmt:=match s with
 | .ClassDef _ _ _ body _ _ _ _ _ _ _=>body.getD j (.Pass ⟨0,0,0,0⟩)
 | _=> .Pass ⟨0,0,0,0⟩
noncomputable def iD(s:Stmt):Arguments:=match s with
 | .FunctionDef _ a _ _ _ _ _ _ _ _=>a
 | _=>{posonlyargs:=[],args:=[],vararg:=none,kwonlyargs:=[],kw_defaults:=[],kwarg:=none,defaults:=[]}
noncomputable def bJ(s:Stmt):List Stmt:=match s with
 | .FunctionDef _ _ b _ _ _ _ _ _ _=>b
 | _=>[]
noncomputable def aA(s:Stmt):Scope:=match s with
 | .FunctionDef _ _ _ _ _ _ sc _ _ _=>sc
 | _=>{kind:= .function,names:=[],isGenerator:=false,isCoroutine:=false}
noncomputable abbrev gG:Gy:=fun _ _ _ _ _ _=>False
noncomputable abbrev E0:XK:=fun _ _ _=>False
theorem JB{X:Cx}:uA gG X E0:=fun _ _ _ _ _ _ _ h=>h.elim
section
variable{X:Cx}
theorem pv(i:Nat){x:Str}{pos:Pos}(hN:X.N[i]? =some x:=by rfl)(hv:Mr X.env.scope x:=by first | exact Or.inl Z | exact Or.inr (Or.inl Z) | exact Or.inr (Or.inr Z))(hd:(x==("__debug__":Str))=false:=by decide)(hcd:(x==("__classdict__":Str))=false:=by decide):PE X (.Name x pos) (wg i):=Nz hN hv hd hcd
end
theorem FZ{A B:Prop}(h:B):if false=true then A else B:=by rw[if_neg Bool.false_ne_true];exact h
theorem Fj{A B:Prop}(h:A):if true=true then A else B:=by rw[if_pos rfl];exact h
theorem Gi{c A B:Prop}[Decidable c](h1:c->A)(h2:¬c->B):if c then A else B:=by
 by_cases h:c
 ·rw[if_pos h];exact h1 h
 ·rw[if_neg h];exact h2 h
noncomputable def aC(H H':Hp):Prop:=∀b o,H b=some o->H' b=some o
theorem aC.refl (H:Hp):aC H H:=fun _ _ h=>h
theorem aC.trans {H H1 H2:Hp} (a:aC H H1) (b:aC H1 H2):aC H H2:=fun c o h=>b c o (a c o h)
theorem aC.free {H H':Hp} (e:aC H H') {l:Addr} (h:H' l=Option.none):H l=Option.none:=by
 cases q:H l with
 | none=>rfl
 | some o=>
  rw[e l o q] at h;cases h
theorem aC.seq {K:W.Frag} {H H':Hp} {a:Addr} {xs:List V} (e:aC H H') (h:aP K H a xs):aP K H' a xs:=by
 rcases h with(h | ⟨o,h⟩) | h
 ·exact .inl (.inl (e _ _ h))
 ·exact .inl (.inr ⟨o,e _ _ h⟩)
 ·exact .inr h
end L2
namespace C5
open PySem
section
variable{M:Model}{A:Around}{E:Value->Shared->Prop}{s:Shared}
noncomputable def uD(env:Env):List (Str×NameKind)->List (Str×Addr)->List (Str×Addr)
  | [],cs=>cs
  | (n,k)::r,cs=>uD env r (if k== .free then(n,(env.cells.lookup n).getD 0)::cs else cs)
theorem xj(env:Env)(n:Str)(k:NameKind)(r:List (Str×NameKind))(cs:List (Str×Addr)):uD env ((n,k)::r) cs=uD env r (if k== .free then(n,(env.cells.lookup n).getD 0)::cs else cs):=rfl
noncomputable def iW(sc:Scope)(env:Env):List (Str×Addr):=uD env sc.names []
theorem zX{env : Env}(f : Str × NameKind -> List (Str × Addr) -> Sem (ForInStep (List (Str × Addr))))(hf:∀n k cs,f (n,k) cs=if k== .free then(do let a <-cellOf env n;pure (.yield ((n,a)::cs))) else pure (.yield cs)):
    ∀(l:List (Str×NameKind))(cs:List (Str×Addr)),(∀y∈l,y.2= .free->∃c,env.cells.lookup y.1=some c)->forIn l cs f=pure (uD env l cs)
  | [],cs,_=>by rw[List.forIn_nil];rfl
  | (n,k)::r,cs,h=>by
    rw[List.forIn_cons,hf];have hr:=fun cs'=>zX f hf r cs' fun y hy=>h y (List.mem_cons_of_mem _ hy);cases hk:k==NameKind.free with
    | false=>
      simp only[Bool.false_eq_true,if_false,pure_bind];rw[hr,xj,hk];rfl
    | true=>
      obtain⟨c,hc⟩:=h (n,k) List.mem_cons_self (by simpa using hk)
      have hc':cellOf env n=pure c:=by unfold cellOf;rw[show env.cells.lookup n=some c from hc]
      simp only[if_true,hc',pure_bind];rw[hr,xj,hk,show env.cells.lookup n=some c from hc];rfl
theorem Ej{sc:Scope}{env:Env}(h:∀y∈sc.names,y.2= .free->∃c,env.cells.lookup y.1=some c):closureFor sc env=pure (iW sc env):=by
 unfold closureFor iW
 dsimp only
 rw[zX (env:=env) _ (fun n k cs=>by cases hk:k==NameKind.free<;>simp[hk]) sc.names [] h];exact pure_bind _ _
theorem uy{env:Env}:∀(l:List (Str×NameKind))(cs:List (Str×Addr))(x:Str)(c:Addr),(x,c)∈uD env l cs->(x,c)∈cs\/((x,NameKind.free)∈l/\c=(env.cells.lookup x).getD 0)
  | [],cs,x,c,h=> .inl h
  | (n,k)::r,cs,x,c,h=>by
    unfold uD at h;rcases uy r _ x c h with h | ⟨h,e⟩
    · cases hk:k==NameKind.free with
      | false=>rw[hk,if_neg Bool.false_ne_true] at h;exact .inl h
      | true=>
        rw[hk,if_pos rfl] at h;have hk':k= .free:=by simpa using hk
        rcases List.mem_cons.mp h with e | h
        · cases e;subst hk';exact .inr ⟨List.mem_cons_self,Z⟩
        · exact .inl h
    · exact .inr ⟨List.mem_cons_of_mem _ h,e⟩
theorem xT{env:Env}:∀(l:List (Str×NameKind))(cs:List (Str×Addr))(p:Str×Addr),p∈cs->p∈uD env l cs
  | [],_,_,h=>h
  | (n,k)::r,cs,p,h=>by
    unfold uD;refine xT r _ p ?_
    split
    · exact List.mem_cons_of_mem _ h
    · exact h
theorem Av{env:Env}:∀(l:List (Str×NameKind))(cs:List (Str×Addr))(x:Str),(x,NameKind.free)∈l->(x,(env.cells.lookup x).getD 0)∈uD env l cs
  | (n,k)::r,cs,x,h=>by
    unfold uD;rcases List.mem_cons.mp h with e | h
    · cases e;refine xT r _ _ ?_;simp
    · exact Av r _ x h
theorem pW{α:Type}:∀{l:List (Str×α)}{x:Str}{c:α},(x,c)∈l->(∀c',(x,c')∈l->c'=c)->l.lookup x=some c
  | (k,v)::r,x,c,h,u=>by
    rw[List.lookup_cons];cases hb:x==k with
    | true=>
      have e:=beq_iff_eq.mp hb;subst e;rw[u v List.mem_cons_self]
    | false=>
      rcases List.mem_cons.mp h with e | h
      · cases e;simp at hb
      · exact pW h fun c' h'=>u c' (List.mem_cons_of_mem _ h')
theorem Hj{sc:Scope}{env:Env}(h:∀y∈sc.names,y.2= .free->∃c,env.cells.lookup y.1=some c){x:Str}{c:Addr}(e:(iW sc env).lookup x=some c):
  env.cells.lookup x=some c/\(x,NameKind.free)∈sc.names:=by
 rcases uy sc.names [] x c (mem_of_lookup e) with z | ⟨z,q⟩
 ·exact absurd z (by simp)
 ·obtain⟨c',hc⟩:=h _ z Z;have hc:env.cells.lookup x=some c':=hc;rw[hc] at q;exact⟨by rw[hc,q];rfl,z⟩
theorem mj{sc:Scope}{env:Env}{x:Str}(e:(x,NameKind.free)∈sc.names):(iW sc env).lookup x=some ((env.cells.lookup x).getD 0):=
 pW (Av sc.names [] x e) fun c' h'=>by
  rcases uy sc.names [] x c' h' with z | ⟨_,q⟩
  ·exact absurd z (by simp)
  ·exact q
theorem fG:∀(names:List (Str×NameKind))(n:Nat)(acc:List (Str×Addr)),cellsFrom n names acc=cellsFrom n names []++acc
  | [],_,_=>Z
  | (x,k)::r,n,acc=>by
    unfold cellsFrom
    split
    · rw[fG r (n+1) ((x,n)::acc),fG r (n+1) [(x,n)]];simp
    · exact fG r n acc
theorem lD:∀(names:List (Str×NameKind))(n:Nat)(x:Str)(c:Addr),(x,c)∈cellsFrom n names []->(x,NameKind.cell)∈names
  | [],_,_,_,h=>by simp[cellsFrom] at h
  | (y,k)::r,n,x,c,h=>by
    unfold cellsFrom at h
    split at h
    · rename_i hk
      have hk':k= .cell:=by simpa using hk
      rw[fG] at h;rcases List.mem_append.mp h with h | h
      · exact List.mem_cons_of_mem _ (lD r _ x c h)
      · have e:(x,c)=(y,n):=by simpa using h
        cases e;subst hk';exact List.mem_cons_self
    · exact List.mem_cons_of_mem _ (lD r _ x c h)
noncomputable def Ao(sc:Scope)(cl:List (Str×Addr))(C:Addr)(env:Env):Env:=
 {scope:=relabel sc env,locals:=C,globals:=env.globals,cells:=cellsFrom (C+1) sc.names cl,qual:=env.qual,func:=none,code:=env.code,frame:=env.frame,builtins:=env.builtins}
theorem newBlock{sc:Scope}{cl:List (Str×Addr)}{env:Env}{Q:Env->Shared->Prop}(h:Q (newEnv sc s.heap.objs.size env.globals (cellsFrom (s.heap.objs.size+1) sc.names cl) env.qual none .none (some env) builtinsNs) {s with heap:=pushCells (s.heap.push {cls:= .type "dict",data:= .dict #[]}) sc.names}):
  wpAny M A (newFunctionEnv sc env.globals cl [] env.qual none .none (some env)) Q E s:=by
 simp only[newFunctionEnv,Option.isSome_some,if_true];refine wpAny_bind (wpAny_alloc ?_);refine wpAny_bind (wpAny_layCells _ (fun name kind cells=>by cases hkc:kind==NameKind.cell<;>simp[hkc]) _ _ _ _ ?_);rw[show({s with heap:=s.heap.push {cls:= .type "dict",data:= .dict #[]}}:Shared).heap.objs.size=s.heap.objs.size+1 from Heap.size_push ..];rw[List.forIn_nil];exact wpAny_bind (wpAny_pure (wpAny_pure h))
theorem rA{sc : Scope}{env : Env}: ∀{l : List (Str × NameKind)}{x : Str},
    (l.map fun(n,k)=>if(k==NameKind.free&&env.scope.kind== .function&&env.kindOf n==some .cell) then(n,NameKind.cell) else(n,k)).lookup x=some .cell->l.lookup x=some .cell\/l.lookup x=some .free
  | [],x,h=>by simp at h
  | (n,k)::r,x,h=>by
    rw[List.map_cons] at h;rw[List.lookup_cons];cases hx:x==n with
    | true=>
      dsimp only at h
      split at h
      · rename_i hc
        rw[Bool.and_eq_true,Bool.and_eq_true] at hc;have:k= .free:=by simpa using hc.1.1
        rw[this];exact .inr Z
      · simp only[List.lookup_cons,hx] at h;exact .inl h
    | false=>
      refine rA (sc:=sc) (env:=env) (l:=r) ?_
      dsimp only at h
      split at h<;>simpa only[List.lookup_cons,hx] using h
theorem qI{env : Env}: ∀{l : List (Str × NameKind)}{x : Str},
    (l.map fun(n,k)=>if(k==NameKind.free&&env.scope.kind== .function&&env.kindOf n==some .cell) then(n,NameKind.cell) else(n,k)).lookup x=some .free->l.lookup x=some .free
  | [],x,h=>by simp at h
  | (n,k)::r,x,h=>by
    rw[List.map_cons] at h;rw[List.lookup_cons];cases hx:x==n with
    | true=>
      dsimp only at h
      split at h
      · simp only[List.lookup_cons,hx] at h;cases h
      · simp only[List.lookup_cons,hx] at h;exact h
    | false=>
      refine qI (env:=env) (l:=r) ?_
      dsimp only at h
      split at h<;>simpa only[List.lookup_cons,hx] using h
theorem nG{env : Env}: ∀{l : List (Str × NameKind)}{x : Str}, l.lookup x = some .free ->
    (l.map fun(n,k)=>if(k==NameKind.free&&env.scope.kind== .function&&env.kindOf n==some .cell) then(n,NameKind.cell) else(n,k)).lookup x=some .cell\/
    (l.map fun(n,k)=>if(k==NameKind.free&&env.scope.kind== .function&&env.kindOf n==some .cell) then(n,NameKind.cell) else(n,k)).lookup x=some .free
  | [],x,h=>by simp at h
  | (n,k)::r,x,h=>by
    rw[List.map_cons];rw[List.lookup_cons] at h;cases hx:x==n with
    | true=>
      rw[hx] at h;cases h
      dsimp only
      split
      · exact .inl (by simp only[List.lookup_cons,hx])
      · exact .inr (by simp only[List.lookup_cons,hx])
    | false=>
      rw[hx] at h;have:=nG (env:=env) (l:=r) h
      dsimp only
      split<;>simpa only[List.lookup_cons,hx] using this
end
section
variable{prog:Program}{w:World}{A:Around}{R:Result->Shared->Prop}{s:Shared}
theorem tL{elt target iter:Expr}{ifs:List Expr}{scope:Scope}{pos:Pos}{it acc:Value}{env:Env}(I:Nat->Shared->Prop)(turn:∀n s,I n s->wpAny (model prog w) A (pyNext it) (fun r s₁=>match r with
   | none=>R (.ok .next) s₁
   | some v=>wpAny (model prog w) A (letOwnedTupleGo target it v) (fun _ s₁'=>wpAny (model prog w) A (assign target env v) (fun _ s₂=>
     wpAny (model prog w) A (forIn ifs true fun c r=>if r=true then do let ok <-isTrue c env (eval c env);pure (ForInStep.yield ok) else pure (ForInStep.yield r)) (fun ok s₃=>
      if ok=true then wpAny (model prog w) A (eval elt env) (fun x s₄=>
       wpAny (model prog w) A (call (.builtin "list.append") [acc,x]) (fun _ s₅=>∃m,m<n/\I m s₅) (fun _ _=>False) s₄) (fun _ _=>False) s₃
      else ∃m,m<n/\I m s₃) (fun _ _=>False) s₂) (fun _ _=>False) s₁') (fun _ _=>False) s₁) (fun _ _=>False) s)(n:Nat)(h:I n s):
  codeAny (model prog w) A (.compLoop (.ListComp elt [⟨target,iter,ifs,0⟩] scope pos) 0 it acc env) R s:=by
 refine codeAny_loop Z I (fun n s hI=>?_) n h;show wpAny _ A ((compTurn (.ListComp elt [⟨target,iter,ifs,0⟩] scope pos) 0 it acc env).onRaise (fun x=>do noteFrame x env;theTreesLotGoes x)) _ _ s;refine wpAny_noted ?_;rw[compTurn_list];refine wpAny_bind (wpAny_standAt (wpAny_bind (wpAny_mono (turn n s hI) (fun r s₁ h₁=>?_) fun _ _ h'=>h'.elim)));cases r with
 | none=>exact wpAny_pure h₁
 | some v=>
  refine wpAny_bind (wpAny_mono h₁ (fun _ s₁' h₁'=>?_) fun _ _ h'=>h'.elim);refine wpAny_bind (wpAny_mono h₁' (fun _ s₂ h₂=>wpAny_bind (wpAny_mono h₂ (fun ok s₃ h₃=>?_) fun _ _ h'=>h'.elim)) fun _ _ h'=>h'.elim);cases ok with
  | false=>exact wpAny_pure ⟨Z,h₃⟩
  | true=>
   exact wpAny_bind (wpAny_bind (wpAny_mono h₃ (fun x s₄ h₄=>wpAny_bind (wpAny_mono h₄ (fun _ s₅ h₅=>wpAny_pure (wpAny_pure ⟨Z,h₅⟩)) fun _ _ h'=>h'.elim)) fun _ _ h'=>h'.elim))
end
end C5
namespace L2
open PySem PySem.Spec PyProof.Rows C5
noncomputable def entry(src:List (Option Nat))(σ:St):St:=src.map fun o=>o.bind fun i=>(σ[i]?).join
structure lz(so sc:Scope)(No N:List Str)(src:List (Option Nat)):Prop where
  kind:sc.kind= .function
  free:sc.names.all (fun y=> !(y.2== .free)||(so.names.lookup y.1==some .cell||so.names.lookup y.1==some .free))=true
  uniq:sc.names.all (fun y=>sc.names.lookup y.1==some y.2)=true
  len:src.length=N.length
  src:(src.zip N).all (fun p=>match p.1 with | none=>true | some i=>No[i]? ==some p.2&&sc.names.lookup p.2==some .free)=true
  nd:N.Nodup
noncomputable def rH(X:Cx)(sc:Scope)(N:List Str)(fp:List Addr)(C:Addr)(s:Shared)(H:Hp):Cx:=
 {X with N:=N,s₀:=s,H₀:=H,env:=Ao sc (iW sc X.env) C X.env,outer:=X.stack,stack:=X.stack,ex:=fp,fn:=fun x=>sc.names.lookup x==some .cell,pn:=[],xe:=fun _ _=>False}
section
variable{X:Cx}{pins:List (Addr×Obj)}{σ:St}{H:Hp}{s:Shared}{sc:Scope}{N:List Str}{src:List (Option Nat)}
theorem lz.has {so:Scope} {No:List Str} (B:lz so sc No N src) (hso:X.env.scope=so) (ok:X.Ok):∀y∈sc.names,y.2= .free->∃c,X.env.cells.lookup y.1=some c:=by
 intro y hy hk;have h:=List.all_eq_true.mp B.free y hy;rw[hk] at h;simp only[beq_self_eq_true,Bool.not_true,Bool.false_or,Bool.or_eq_true,beq_iff_eq] at h;rw[<-hso] at h;rcases h with h | h
 ·exact ok.has y.1 (.inl h)
 ·exact ok.has y.1 (.inr h)
theorem lz.look {so:Scope} {No:List Str} (B:lz so sc No N src) {x:Str} {k:NameKind} (h:(x,k)∈sc.names):sc.names.lookup x=some k:=by have:=List.all_eq_true.mp B.uniq (x,k) h;simpa using this
theorem vG{α:Type}:∀{l r:List (Str×α)}{x:Str}{c:α},(l++r).lookup x=some c->l.lookup x=some c\/r.lookup x=some c
  | [],_,_,_,h=> .inr h
  | (k,v)::l,r,x,c,h=>by
    rw[List.cons_append,List.lookup_cons] at h;rw[List.lookup_cons];cases hb:x==k with
    | true=>rw[hb] at h;exact .inl h
    | false=>rw[hb] at h;exact vG h
theorem qR{α:Type}:∀{l r:List (Str×α)}{x:Str},(∀c,(x,c)∉l)->(l++r).lookup x=r.lookup x
  | [],_,_,_=>Z
  | (k,v)::l,r,x,h=>by rw[List.cons_append,List.lookup_cons];have hb:(x==k)=false:=beq_eq_false_iff_ne.mpr fun e=>h v (by rw[e];exact List.mem_cons_self);rw[hb];exact qR fun c hc=>h c (List.mem_cons_of_mem _ hc)
theorem Inv.block {fp:List Addr} {h1:Heap} {C:Nat} {t:Nat} (I:Inv X pins σ H s) (B:lz X.env.scope sc X.N N src) (hf:∀b∈fp,gF X pins H b) (hlt:∀b∈fp,b<s.heap.objs.size)
  (hC:C=s.heap.objs.size+1) (e1:h1=pushCells ((s.heap.push {cls:= .type "list",data:= .seq #[]}).push {cls:= .type "dict",data:= .dict #[]}) sc.names):
  Inv (rH X sc N fp C s H) [] (entry src σ) (upd H s.heap.objs.size (.lst [])) {s with heap:=h1,toks:=t}:=by
 have has:=B.has Z I.ok;have szL:(s.heap.push {cls:= .type "list",data:= .seq #[]}:Heap).objs.size=C:=by rw[Heap.size_push,hC]
 have szD:((s.heap.push {cls:= .type "list",data:= .seq #[]}).push {cls:= .type "dict",data:= .dict #[]}:Heap).objs.size=C+1:=by rw[Heap.size_push,szL]
 have own:=cellsFrom_ok sc.names ((s.heap.push {cls:= .type "list",data:= .seq #[]}).push {cls:= .type "dict",data:= .dict #[]}) (C+1) [] ⟨fun _ _ hm=>(nomatch hm),List.Pairwise.nil⟩ (by rw[szD];exact Nat.le_refl _);rw[szD,<-e1] at own;have keep0:∀b o,((s.heap.push {cls:= .type "list",data:= .seq #[]}).push {cls:= .type "dict",data:= .dict #[]}:Heap).get? b=some o->h1.get? b=some o:=fun b o e=>by rw[e1];exact pushCells_keeps _ _ b o e
 have keep:∀b o,s.heap.get? b=some o->h1.get? b=some o:=fun b o e=>keep0 b o (Heap.get?_push_of_some _ (Heap.get?_push_of_some _ e));have atD:h1.get? s.heap.objs.size=some {cls:= .type "list",data:= .seq #[]}:=keep0 _ _ (Heap.get?_push_of_some _ (Heap.get?_push_size _ Z))
 have nsC:h1.Ns C (fun _=>none):=by have q:=Heap.Ns.new (s.heap.push {cls:= .type "list",data:= .seq #[]}) (.type "dict");rw[szL] at q;exact q.keeps keep0
 have fresh:∀b,s.heap.objs.size<=b->H b=none:=fun b hb=>I.hok.fresh hb
 have cells:∀x c,(cellsFrom (C+1) sc.names (iW sc X.env)).lookup x=some c->
   ((x,c)∈cellsFrom (C+1) sc.names []/\h1.IsCell c none/\C+1<=c)\/(X.env.cells.lookup x=some c/\(x,NameKind.free)∈sc.names):=fun x c e=>by
  rw[fG] at e;rcases vG e with e | e
  ·have hm:=mem_of_lookup e;obtain⟨q1,q2⟩:=own.empty x c hm;exact .inl ⟨hm,q1,q2⟩
  ·exact .inr (Hj has e)
 have cellLt:∀x c,X.env.cells.lookup x=some c-> @LT.lt Nat instLTNat c s.heap.objs.size:=fun x c e=>by obtain⟨v,z⟩:=I.cell x c e;exact z.lt
 have freeIn:∀x,(x,NameKind.free)∈sc.names->(cellsFrom (C+1) sc.names (iW sc X.env)).lookup x=X.env.cells.lookup x:=fun x hx=>by
  rw[fG,qR (fun c hc=>?_),mj hx]
  ·obtain⟨c,hc⟩:=has _ hx Z;have hc:X.env.cells.lookup x=some c:=hc;rw[hc];rfl
  ·have k1:=B.look (lD sc.names _ x c hc);have k2:=B.look hx;rw[k1] at k2;cases k2
 have ex:(rH X sc N fp C s H).ex=fp:=Z;refine⟨⟨I.ok.mod,B.kind,I.ok.glob,I.ok.blt,?_,?_,?_,?_,I.ok.hd,I.ok.frames,.inl Z,?_,I.bs,Nat.le_trans I.ok.bsz I.sz,?_,?_,I.stack,I.stkFree⟩,Z,I.bare,Un.laid keep (Nat.le_refl _) (fresh _ (Nat.le_refl _)),?_,?_,?_,?_,?_,?_,?_⟩
 ·-- above
  show s.heap.objs.size<=C;omega
 ·-- inj
  intro x y c h1' h2';rcases cells x c h1' with⟨m1,_,g1⟩ | ⟨e1',_⟩
  ·rcases cells y c h2' with⟨m2,_,_⟩ | ⟨e2',_⟩
   ·exact name_of_addr own.apart m1 m2
   ·have:=cellLt y c e2';omega
  ·rcases cells y c h2' with⟨_,_,g2⟩ | ⟨e2',_⟩
   ·have:=cellLt x c e1';omega
   ·exact I.ok.inj x y c e1' e2'
 ·-- has
  intro x hx;show ∃c,(cellsFrom (C+1) sc.names (iW sc X.env)).lookup x=some c
  have hx':sc.names.lookup x=some .cell\/sc.names.lookup x=some .free:=by
   rcases hx with hx | hx
   ·exact rA (sc:=sc) (env:=X.env) hx
   ·exact .inr (qI (env:=X.env) hx)
  rcases hx' with hx' | hx'
  ·exact Option.isSome_iff_exists.mp (W.cellsFrom_some sc.names (C+1) (iW sc X.env) (.inl hx'))
  ·rw[freeIn x (PySem.mem_of_lookup hx')];exact has _ (PySem.mem_of_lookup hx') Z
 ·-- cab
  intro x c hfn hc;have hfn':sc.names.lookup x=some .cell:=by simpa[rH] using hfn
  show s.heap.objs.size<=c;rcases cells x c hc with⟨_,_,g⟩ | ⟨_,hfr⟩
  ·omega
  ·have:=B.look hfr;rw[hfn'] at this;cases this
 ·-- exf
  intro b hb;rw[ex] at hb;have hb': @LT.lt Nat instLTNat b s.heap.objs.size:=hlt b hb;refine gM (hf b hb) fun f0 f1 f2 f3 f4 f5=>?_;refine⟨Nat.ne_of_lt (show @LT.lt Nat instLTNat b C by omega),fun x c hc=>?_⟩;rcases cells x c hc with⟨_,_,g⟩ | ⟨e,_⟩
  ·exact Nat.ne_of_gt (show @LT.lt Nat instLTNat b c by omega)
  ·exact f4 x c e
 ·-- noex
  intro b o e hb;rw[ex] at hb;refine gM (hf b hb) fun f0 f1 f2 f3 f4 f5=>?_;rcases f3 with f3 | f3
  ·exact I.ok.noex b o e f3
  ·exact absurd (Nat.lt_of_lt_of_le (Heap.lt_size e) (Nat.le_trans I.ok.bsz f3)) (Nat.lt_irrefl _)
 ·-- exfs
  intro b hb hb2;rw[ex] at hb;refine gM (hf b hb) fun f0 f1 f2 f3 f4 f5=>?_;rcases List.mem_cons.mp (I.stkSub b hb2) with z | z
  ·exact f1 z
  ·exact f2 z
 ·-- loc
  refine⟨fun _=>none,nsC,fun j x v hj hv _=>?_⟩;have hj:N[j]? =some x:=hj;unfold entry at hv;rw[List.getElem?_map] at hv;cases hs:src[j]? with
  | none=>rw[hs] at hv;cases hv
  | some o=>
   rw[hs] at hv;cases o with
   | none=>cases hv
   | some i=>
    have hv:((σ[i]?).join)=some v:=by simpa using hv
    have hm:(some i,x)∈src.zip N:=by rw[List.mem_iff_getElem?];exact⟨j,by rw[List.getElem?_zip_eq_some];exact⟨hs,hj⟩⟩
    have q:=List.all_eq_true.mp B.src _ hm;simp only[Bool.and_eq_true,beq_iff_eq] at q;obtain⟨q1,q2⟩:=q;have hfr:=PySem.mem_of_lookup q2
    have hσ:σ[i]? =some (some v):=by
     cases e:σ[i]? with
     | none=>rw[e] at hv;cases hv
     | some u=>rw[e] at hv;cases u with
      | none=>cases hv
      | some w'=>cases hv;rfl
    refine aO I.loc fun m hn hl=>?_;have hso:=List.all_eq_true.mp B.free _ hfr;simp only[beq_self_eq_true,Bool.not_true,Bool.false_or,Bool.or_eq_true,beq_iff_eq] at hso
    have hvis:Mr X.env.scope x:=by
     rcases hso with z | z
     ·exact .inr (.inl z)
     ·exact .inr (.inr z)
    refine aO (hl i x v q1 hσ hvis) fun u ru lk=>?_;refine⟨u,ru,.inr ⟨?_,?_⟩⟩
    ·exact nG (env:=X.env) q2
    ·rcases lk with⟨kk,_⟩ | ⟨_,c,hc,hcell⟩
     ·have kk:X.env.scope.names.lookup x=some .local:=kk;rcases hso with z | z
      ·rw[kk] at z;cases z
      ·rw[kk] at z;cases z
     ·refine⟨c,?_,hcell.keeps keep⟩;show(cellsFrom (C+1) sc.names (iW sc X.env)).lookup x=some c;rw[freeIn x hfr];exact hc
 ·-- cell
  intro x c hc;rcases cells x c hc with⟨_,g,_⟩ | ⟨e,_⟩
  ·exact⟨none,g⟩
  ·obtain⟨v,z⟩:=I.cell x c e;exact⟨v,z.keeps keep⟩
 ·-- free
  show upd H s.heap.objs.size (.lst []) C=none;rw[aB (Nat.ne_of_gt (show @LT.lt Nat instLTNat s.heap.objs.size C by omega))];exact fresh _ (show @LE.le Nat instLENat s.heap.objs.size C by omega)
 ·-- freeC
  intro x c hc;rcases cells x c hc with⟨_,_,g⟩ | ⟨e,_⟩
  ·rw[aB (Nat.ne_of_gt (show @LT.lt Nat instLTNat s.heap.objs.size c by omega))];exact fresh _ (show @LE.le Nat instLENat s.heap.objs.size c by omega)
  ·rw[aB (Nat.ne_of_lt (cellLt x c e))];exact I.freeC x c e
 ·-- pin
  intro p hp;exact absurd (show p∈([]:List (Addr×Obj)) from hp) (by simp)
 ·-- hok
  refine I.hok.laid keep (Nat.le_refl _) ?_;exact⟨Nat.zero_le _,[],0,.nil,atD⟩
 ·-- len
  unfold entry;rw[List.length_map];exact B.len
noncomputable def Qh(X:Cx)(ifs:List Expr)(t:TT):Prop:=
 ∀(pins:List (Addr×Obj))(s:Shared)(σ:St)(H:Hp)(Q:Bool->Hp->Prop),Inv X pins σ H s->t σ H Q->
  wpAny (model X.prog X.w) X.A (forIn ifs true fun c r=>if r=true then do let ok <-isTrue c X.env (eval c X.env);pure (ForInStep.yield ok) else pure (ForInStep.yield r)) (TP X pins σ Q) X.xe s
noncomputable def zW:TT:=fun _ H Q=>Q true H
theorem bF:Qh X [] zW:=fun _ _ _ H _ I h=>wpAny_tests_nil ⟨H,I,h⟩
theorem kO{c:Expr}{t:TT}(h:PT X c t):Qh X [c] t:=fun pins s σ H Q I hw=>wpAny_tests_one (h pins s σ H Q I hw)
noncomputable def JK(src:List (Option Nat))(wi:TI)(g:TG)(tt:TT)(te:TE):TE:=fun σ H Q=>wi σ H fun J H1=>∀D,H1 D=none->
 ∃W:Nat->Nat->St->Hp->Prop,(∃m,W 0 m (entry src σ) (upd H1 D (.lst [])))/\∀i m σ' H',W i m σ' H'->
  (J.stop i H'/\Q (.ref D) H')\/(J.go i H'/\∃N:St->Hp->Prop,(∀σ2 H2,N σ2 H2->∃m',m'<m/\W (i+1) m' σ2 H2)/\∀x H2,J.yld i H' x H2->g x σ' H2 fun σ3 H3=>tt σ3 H3 fun b H4=>
   if b=true then te σ3 H4 fun v H5=>∃xs,H5 D=some (.lst xs)/\xs.length<sizeLine/\N σ3 (upd H5 D (.lst (xs++[v]))) else N σ3 H4)
theorem bH{elt tgt iter:Expr}{ifs:List Expr}{wi:TI}{g:TG}{tt:TT}{te:TE}{pos:Pos}(hc:X.calm=true)(B:lz X.env.scope sc X.N N src)(hi:PI X tgt iter wi)(hg:∀(s:Shared)(H:Hp)(C:Addr)(fp:List Addr),PG (rH X sc N fp C s H) tgt g)(ht:∀(s:Shared)(H:Hp)(C:Addr)(fp:List Addr),Qh (rH X sc N fp C s H) ifs tt)(he:∀(s:Shared)(H:Hp)(C:Addr)(fp:List Addr),PE (rH X sc N fp C s H) elt te)(hs:∀x,foldedSetIterable iter X.env x=pure x:=by intro _;rfl):
  PE X (.ListComp elt [⟨tgt,iter,ifs,0⟩] sc pos) (JK src wi g tt te):=by
 intro pins s σ H Q I h;rw[eval_ListComp];have has:=B.has Z I.ok
 refine wpAny_comprehension_free (use:=none) Z hs (Ej has) B.kind (fun y hy hk=>by have:=B.look (x:=y.1) (k:=y.2) hy;rw[hk] at this;exact this)
  (dF (hi pins s σ H _ I h) fun v s1 h1=>dF h1 fun itv s2 h2=>?_)
 refine zb h2 fun it fp p2_=>?_;obtain⟨tn,J,H2,e,I2,T,st2,f2,q⟩:=p2_;subst e;refine wpAny_newObj_type (newBlock ?_);refine aO (q s2.heap.objs.size (I2.hok.fresh (Nat.le_refl _))) fun W p1_ turn=>?_;obtain⟨m0,w0⟩:=p1_
 have hlt:∀b∈fp,b<s2.heap.objs.size:=fun b hb=>by refine aO (T.obj 0 _ st2 b hb) fun o ho _=>?_;exact Heap.lt_size ho
 have szL:(s2.heap.push {cls:= .type "list",dict:=none,data:= .seq ([]:List Value).toArray}:Heap).objs.size=s2.heap.objs.size+1:=Heap.size_push ..;generalize hh1:pushCells ((s2.heap.push {cls:= .type "list",dict:=none,data:= .seq ([]:List Value).toArray}:Heap).push {cls:= .type "dict",data:= .dict #[]}) sc.names=hB;have IB:=I2.block (C:=(s2.heap.push {cls:= .type "list",dict:=none,data:= .seq ([]:List Value).toArray}:Heap).objs.size) (t:=s2.toks) B f2 hlt szL hh1.symm;generalize (s2.heap.push {cls:= .type "list",dict:=none,data:= .seq ([]:List Value).toArray}:Heap).objs.size=C at IB szL⊢
 have keepB:∀b o,s2.heap.get? b=some o->hB.get? b=some o:=fun b o e=>by rw[<-hh1];exact pushCells_keeps _ _ b o (Heap.get?_push_of_some _ (Heap.get?_push_of_some _ e))
 have stB:tn 0 hB:=T.keep 0 _ _ st2 fun b _ o e=>keepB b o e
 have frB:∀b∈fp,upd H2 s2.heap.objs.size (.lst []) b=none:=fun b hb=>by rw[aB (Nat.ne_of_lt (hlt b hb))];exact(f2 b hb).1
 have stat:∀{H':Hp},(∀b∈fp,H' b=none)->∀b∈fp,gF (rH X sc N fp C s2 H2) [] H' b:=fun{H'} hn b hb=>by obtain⟨z1,z2⟩:=IB.ok.exf b hb;exact⟨hn b hb,z1,IB.ok.exfs b hb,.inl hb,z2,fun p hp=>absurd (show p∈([]:List (Addr×Obj)) from hp) (by simp)⟩
 show codeAny (model X.prog X.w) X.A (.compStart (.ListComp elt [⟨tgt,iter,ifs,0⟩] sc pos) 0 (.ref it) (.ref s2.heap.objs.size) (Ao sc (iW sc X.env) C X.env)) (compPost (model X.prog X.w) X.A X.xe none (EP X pins σ Q) (.ref s2.heap.objs.size) C) {s2 with heap:=hB}
 have loop:codeAny (model X.prog X.w) X.A (.compLoop (.ListComp elt [⟨tgt,iter,ifs,0⟩] sc pos) 0 (.ref it) (.ref s2.heap.objs.size) (Ao sc (iW sc X.env) C X.env))
   (compPost (model X.prog X.w) X.A X.xe none (EP X pins σ Q) (.ref s2.heap.objs.size) C) {s2 with heap:=hB}:=by
  refine tL (fun n s'=>∃i σ' H',Inv (rH X sc N fp C s2 H2) [] σ' H' s'/\tn i s'.heap/\(∀b∈fp,H' b=none)/\W i n σ' H') ?_ m0 ⟨0,_,_,IB,stB,frB,w0⟩;rintro n s3 ⟨i,σ3,H3,I3,st3,fr3,w3⟩;rcases turn i n σ3 H3 w3 with⟨stop,qn⟩ | ⟨go,N',hN,step⟩
  ·refine dF (T.done (rH X sc N fp C s2 H2) Z Z Z hc i [] s3 σ3 H3 _ I3 (stat fr3) st3 stop) fun r s4 ⟨hr,I4⟩=>?_;subst hr;refine aO I4.loc fun m hn _=>?_;refine⟨m,hn,fun h' hs'=>?_⟩;refine⟨.ref s2.heap.objs.size,H3,?_,Z,qn⟩;have ltC:∀b o,s2.heap.get? b=some o->b≠C:=fun b o e=>Nat.ne_of_lt (show @LT.lt Nat instLTNat b C by have: @LT.lt Nat instLTNat b s2.heap.objs.size:=Heap.lt_size e;omega);have base:=I4.base;have freeC:H3 C=none:=I4.free;refine I2.call' (s':={s4 with heap:=h'}) (ch:=fp) I4.os ⟨fun b o e n hb hx=>?_,fun b o e n hb hx=>?_,base.free,fun b o e hx=>?_,base.tups,base.frzs,base.tbls⟩ (fun b ob e=>?_) I4.bare (fun b hb=>?_)
   ·exact(hs'.2 b (ltC b o e)).trans (base.keep b o e n hb hx)
   ·obtain⟨sl,e1⟩:=base.slot b o e n hb hx;exact⟨sl,(hs'.2 b (ltC b o e)).trans e1⟩
   ·obtain⟨o',e1⟩:=base.there b o e hx;exact⟨o',(hs'.2 b (ltC b o e)).trans e1⟩
   ·refine(I4.hok b ob e).stay (fun c w' hc' q'=>(hs'.2 c ?_).trans q') (fun _ q'=>q') fun _ _ q'=>q';intro z;rcases hc' with z' | z'
    ·rw[<-z',z,freeC] at e;cases e
    ·rw[z,freeC] at z';cases z'
   ·refine gM (f2 b hb) fun f0 f1 f2' f3 f4 f5=>?_;exact⟨f3,f1,f4,f5⟩
  ·refine dF (T.item (rH X sc N fp C s2 H2) Z Z Z hc i [] s3 σ3 H3 _ I3 (stat fr3) st3 go) fun r s4 ⟨u,hr,h4⟩=>?_;subst hr;refine dF h4 fun _ s5 ⟨x,H5,I5,r5,y5,st5,fr5⟩=>?_;have I5':=I5.pinned (stat fr5) (T.obj _ _ st5)
   have again:∀{s7:Shared}{σ7:St}{H7:Hp},Inv (rH X sc N fp C s2 H2) ([]++rP fp s5.heap) σ7 H7 s7->N' σ7 H7->∃m,m<n/\∃i σ' H',Inv (rH X sc N fp C s2 H2) [] σ' H' s7/\tn i s7.heap/\(∀b∈fp,H' b=none)/\W i m σ' H':=fun{s7 σ7 H7} I7 n7=>by refine aO (hN σ7 H7 n7) fun m' hm w7=>?_;refine⟨m',hm,i+1,σ7,H7,I7.unpinned,T.keep _ _ _ st5 fun b hb o e=>(I7.pin (b,o) (List.mem_append_right _ (List.mem_append_right _ (jg hb e)))).1,fun b hb=>?_,w7⟩;refine aO (T.obj _ _ st5 b hb) fun o e d=>?_;exact(I7.pin (b,o) (List.mem_append_right _ (List.mem_append_right _ (jg hb e)))).2.1
   refine dF (hg s2 H2 C fp _ s5 σ3 H5 x u _ I5' r5 (step x H5 y5)) fun _ s6 ⟨σ6,H6,I6,q6⟩=>?_;refine dF (ht s2 H2 C fp _ s6 σ6 H6 _ I6 q6) fun b s7 ⟨H7,I7,q7⟩=>?_;cases b with
   | false=>
    rw[if_neg Bool.false_ne_true] at q7⊢;exact again I7 q7
   | true=>
    rw[if_pos rfl] at q7⊢;refine dF (he s2 H2 C fp _ s7 σ6 H7 _ I7 q7) fun u8 s8 ⟨v8,H8,I8,r8,xs,hD,hz,n8⟩=>?_;exact dF (dg (X:=rH X sc N fp C s2 H2) _ s8 σ6 H8 (.ref s2.heap.objs.size) [v8] (.ref s2.heap.objs.size) [u8] (fun _ H=>N' σ6 H) I8 Z (.cons r8 .nil) ⟨_,xs,v8,Z,Z,hD,hz,n8⟩) fun _ s9 ⟨_,H9,I9,_,n9⟩=>again I9 n9
 exact codeAny_compStart_list loop (T.self _ 0 _ _ _ stB loop)
end
section
variable{X:Cx}
noncomputable def QZ(K:W.Frag):List V->Hp->VK->Prop:=fun xs H Q=>∃(p:Addr)(ns:List Int),xs=[.ref p]/\aP K H p (ns.map V.int)/\Q (.int ns.sum) H
theorem HW(hc:X.calm=true):iR X (.builtin "sum") (QZ X.K):=by
 intro pins s σ H xs us Q I rs h;refine dB h fun p ns e2_ hq q=>?_;subst e2_;refine aO (vals1 rs) fun u e1_ r1=>?_;subst e1_;cases r1;refine bL (I.list hq) fun its r pl hz=>?_;have hi:IntsAre its ns:=intsAre_of r;obtain⟨xs,ex⟩:=hi.allInts.items;refine sum_intListG (xs:=xs) (I.ok.hd hc) (by rw[<-ex];exact pl.isList) fun h' tk t' hk=>?_
 have e:preSum (numAt xs) xs.size=ns.sum:=by
  have e1:numsOf its.toArray.toList=ns:=by rw[show its.toArray.toList=its from rfl];exact hi.numsOf
  rw[preSum_eq,List.take_of_length_le (by simp),<-e1,ex,nums_intItems]
 rw[e];exact⟨.int ns.sum,H,I.kept hk,⟨_,Z⟩,q⟩
noncomputable def PX(K:W.Frag):List V->Hp->VK->Prop:=fun xs H Q=>∃(p:Addr)(bs:List Bool),xs=[.ref p]/\aP K H p (bs.map V.bl)/\Q (.bl (bs.all id)) H
theorem all_range(bs:List Bool):((List.range bs.length).all fun i=>bs.getD i false)=bs.all id:=by
 induction bs with
 | nil=>rfl
 | cons b r ih=>
  rw[List.length_cons,List.range_succ_eq_map,List.all_cons,List.all_map,List.all_cons,<-ih];rfl
theorem Hv(hc:X.calm=true):iR X (.builtin "all") (PX X.K):=by
 intro pins s σ H xs us Q I rs h;refine dB h fun p bs e2_ hq q=>?_;subst e2_;refine aO (vals1 rs) fun u e1_ r1=>?_;subst e1_;cases r1;refine bL (I.list hq) fun its r pl hz=>?_;have hlen:its.length=bs.length:=by have:=r.length;rw[List.length_map] at this;exact this.symm
 refine call_function_tree F.kind_all F.plain_all F.entry_all (F.args_all1 _) ?_;show wpAny _ X.A.in1 (pyIter (.ref p)>>=_) _ _ s;refine wpAny_bind (wpAny_pyIter_list pl.isList ?_)
 have hne:p≠s.heap.objs.size:=by refine aO pl.isList fun o ho _=>?_;exact Nat.ne_of_lt (Heap.lt_size ho)
 refine wpAny_pure ⟨plainId_quiet F.plain_all_loop _,?_⟩
 refine codeAny_all_loop (Walks.list (A:=X.A.in1) (I.ok.hd hc) s.heap.objs.size p hne its.toArray) (fun i=>bs.getD i false) (fun i v s' Q' E' hP hQ'=>?_) its.toArray.size 0 _ Z (Nat.zero_le _)
  ⟨⟨_,Heap.get?_push_size _ Z,Z,Z⟩,(show s.heap.IsList p its.toArray from pl.isList).at fun o e=>Heap.get?_push_of_some _ e⟩ fun h' tk hk=>?_
 ·have hP':its[i]? =some v:=by simpa using hP
  have hi:i<bs.length:=by rw[<-hlen];exact(List.getElem?_eq_some_iff.mp hP').1
  refine aO (r.get (i:=i) (x:=V.bl (bs[i])) (by simp[hi])) fun u hu ru=>?_;rw[hP'] at hu;cases hu;obtain rfl:v=Value.bool bs[i]:=ru;have e:bs.getD i false=bs[i]:=by simp[List.getD,hi]
  dsimp only at hQ'
  rw[e] at hQ';exact wpAny_truthy_bool hQ'
 ·refine⟨.bl (bs.all id),H,I.kept (t':=tk) fun b o e=>hk b o (fun z=>?_) (Heap.get?_push_of_some _ e),?_,q⟩
  ·have z':b=s.heap.objs.size:=by simpa using z
   exact absurd (Heap.lt_size e) (by rw[z'];exact Nat.lt_irrefl _)
  ·show Value.bool _=Value.bool _;rw[List.drop_zero,List.size_toArray,hlen,all_range]
end
end L2
namespace L2
open PySem PySem.Spec PyProof.Rows
structure bf(K:W.Frag)(x qual:Str)(st:Stmt)(dV:Value)(f:Addr)(fd:FuncData):Prop where
 ex:∃(oc:Value)(od:Option Addr)(kV doc pm:Value)(an:Option Addr)(cdv ct:Value)(osl:Array (Option Value)),
  fd=W.fnOf x qual (iD st) (bJ st) (aA st) dV kV doc pm an cdv ct/\K.lookup f=some ⟨oc,od,.func fd,osl⟩/\W.codeIn K cdv qual=true
 kp:W.keepIn K (.ref f)=true
theorem funD_mk{K:W.Frag}{x qual:Str}{st:Stmt}{dV:Value}{f:Addr}{oc:Value}{od an:Option Addr}{osl:Array (Option Value)}{kV doc pm cdv ct:Value}(l:K.lookup f=some ⟨oc,od,.func (W.fnOf x qual (iD st) (bJ st) (aA st) dV kV doc pm an cdv ct),osl⟩)(c:W.codeIn K cdv qual=true)(k:W.keepIn K (.ref f)=true):bf K x qual st dV f (W.fnOf x qual (iD st) (bJ st) (aA st) dV kV doc pm an cdv ct):=⟨⟨oc,od,kV,doc,pm,an,cdv,ct,osl,Z,l,c⟩,k⟩
structure jA(P:Program)(w:World)(K:W.Frag)(mg:Str->Option Value)(base:Heap)(k:Nat)(x:Str)(ps:List Str)(ds:List V)(sp:Sp):Prop where
 ex:∃(f:Addr)(fd:FuncData)(dvs:List Value),bD P w K mg base gG k f fd ps sp/\mg x=some (.ref f)/\W.keepIn K (.ref f)=true/\Binds K fd ps dvs/\Vals ds dvs
section
variable{P:Program}{w:World}{K:W.Frag}{mg:Str->Option Value}{base:Heap}
theorem bf.ok {x qual:Str} {st:Stmt} {dV:Value} {f:Addr} {fd:FuncData} {N ps:List Str} {k:Nat} {sp:Sp} (F:bf K x qual st dV f fd) (S:aL N ps (aA st)) (len:∀vs H Q E,sp vs H Q E->vs.length=ps.length)
  (hbody:∀(cdv:Value)(A:Around)(outer:List Env)(s:Shared)(H:Hp)(vs:List V)(Q:VK)(E:XK),dD k (A.deeper (envOfC qual (aA st) s.heap.objs.size f cdv))->sp vs H Q E->
   ∃t,qz (jx gG P w K mg base N qual (aA st) f cdv A outer s H E).nox (bJ st) t/\t {nx:=fun _ H'=>Q .non H',rt:=Q} (start N vs) H):bD P w K mg base gG (k+1) f fd ps sp:=by
 refine bM F.ex fun oc od kV doc pm an cdv ct osl e9_ lk hcd=>?_;subst e9_;refine DY lk hcd S len fun A outer s H vs Q E hr hsp=>?_;refine aO (hbody cdv A outer s H vs Q E hr hsp) fun t h q=>?_;exact⟨t,h.nox,q⟩
theorem bf.def {x qual:Str} {st:Stmt} {f:Addr} {fd:FuncData} {ps:List Str} {k:Nat} {sp:Sp} (F:bf K x qual st .none f fd) (G:bD P w K mg base gG k f fd ps sp) (hm:mg x=some (.ref f))
  (h:∀(kV doc pm:Value)(an:Option Addr)(cdv ct:Value)(us:List Value),us.length=ps.length->bindArgs (W.fnOf x qual (iD st) (bJ st) (aA st) .none kV doc pm an cdv ct) ⟨us,[]⟩=pure (ps.zip us)):jA P w K mg base k x ps [] sp:=by
 refine bM F.ex fun oc od kV doc pm an cdv ct osl e9_ lk hcd=>?_;subst e9_;exact⟨f,_,[],G,hm,F.kp,.all (h kV doc pm an cdv ct),.nil⟩
end
section
variable{X:Cx}
theorem aD{k:Nat}{x:Str}{ps:List Str}{ds:List V}{sp:Sp}{e:Expr}{es:List Expr}{t:TA}{p pos:Pos}(D:jA X.prog X.w X.K X.mg X.base k x ps ds sp)(hr:dD k X.A)(hg:Gl X x)(ha:PA X (e::es) t)(hdb:(x==("__debug__":Str))=false:=by decide)(he:starEach (e::es) X.env=(false,eval e X.env)::starEach es X.env:=by rfl)(hpl:(backTo pos (starEach es X.env)).any (·.1)=false:=by rfl):
  PE X (.Call (.Name x p) (e::es) [] pos) (vd sp ds E0 t):=by
 refine kh D.ex fun f fd dvs F hm hk hb hd=>?_;exact Kq F hr hg hm hk hb hd JB ha hdb he hpl
end
end L2
namespace Att
open PySem PySem.W PySem.Calls PyProof.Rows
theorem vX:∀{ns:List Int}{x:Int},x∈ns->Builtin.Int.intBits x<=WData.weightAll (ns.map WData.int)
 | n::r,x,h=>by
  rw[List.map_cons];unfold WData.weightAll;rcases List.mem_cons.mp h with e | h
  ·subst e;have:WData.weight (.int x)=Builtin.Int.intBits x:=by unfold WData.weight Builtin.Int.intBits;rfl
   omega
  ·have:=vX h;omega
theorem Aa{ns:List Int}(h:WData.layableAll [WData.list (ns.map WData.int)]=true):∀x∈ns,Builtin.Int.intBits x<=2 ^ 20:=fun x hx=>by
 have h1:WData.layable (WData.list (ns.map WData.int))=true:=by simpa[WData.layableAll] using h
 unfold WData.layable at h1;rw[Bool.and_eq_true] at h1;have h2:WData.weight (WData.list (ns.map WData.int))<=2 ^ 20:=of_decide_eq_true h1.2;have h3:WData.weight (WData.list (ns.map WData.int))=WData.weightAll (ns.map WData.int):=by unfold WData.weight;rfl
 have h4:=vX hx;omega
theorem attach_callB{l:OpenLaw}{n:Nat}{q:Program}{loose:List Str}{XP:(Str->Option Value)->Heap->Prop}{YP:World->Heap->Prop}{d:DefRec}(hn:l.most=some n)(hdf:d.params.defaults=[])(call:∀(w:World)(s₀ s₁:Shared)(mg mb:Str->Option Value)(fa:Addr)(o:Obj)(pm cd doc:Value)(a:Addr)(vs:List Value)(ns:List Int),
   Ground q loose [] XP w s₀ mg mb s₁.heap->YP w s₁.heap->
   s₁.heap.get? fa=some o->o.data= .func (docDef d.name d.params d.body d.scope pm cd doc)->s₁.heap.CodeRec cd d.name->mg d.name=some (.ref fa)->
   s₁.heap.get? a=some {cls:= .type "list",data:= .seq vs.toArray}->IntsAre vs ns->ns.length<=n->(∀x∈ns,Builtin.Int.intBits x<=2 ^ 20)->s₁.gens=#[]->
   codeAny (model l.prog w) callerA (.call (.ref fa) ⟨[.ref a],[]⟩) (fun r s'=>r= .ok (.ret (.bool true))/\OldK s₁.heap s'.heap/\s'.os=s₁.os/\AllBare s'.gens) s₁):
  WalkO q loose XP YP l.row.toRowW d [] (fun f vs=>PySem.call f vs):=by
 intro w s₀ s₁ mg mb G Y fa o pm cd doc dV kV ho hd hcd hD hmg hg args vals as hpre hlay hrd hwl hlo;obtain rfl:dV= .none:=Dflts.none hD hdf;obtain rfl:kV= .none:=Dflts.noKw hD;refine kh (Gf hn hpre hwl) fun a vs ns e3_ e4_ hobj hints hlen=>?_;subst e3_;subst e4_;refine enter_call (codeAny_mono (call w s₀ s₁ mg mb fa o pm cd doc a vs ns G Y ho (fd_plain hd) hcd hmg hobj hints hlen (Aa hlay) hg) fun r s' hq=>?_);refine QH hq fun e0_ h2 h3 h4=>?_;subst e0_;exact⟨.inl ⟨.bool true,.bool true,[],Z,fun _=>Z,.bool true,Gj l _,fun _=>⟨List.Pairwise.nil,fun _ hm=>(nomatch hm)⟩⟩,h2,h3,h4⟩
end Att
namespace L2
open PySem PySem.Spec PyProof.Rows
end L2
namespace L2
open PySem
theorem len0{us:List Value}(h:us.length=0):us=[]:=List.eq_nil_of_length_eq_zero h
theorem JZ{us:List Value}{n:Nat}(h:us.length=n+1):∃a r,us=a::r/\r.length=n:=by
 cases us with
 | nil=>exact absurd h (Nat.succ_ne_zero n).symm
 | cons a r=>exact⟨a,r,Z,Nat.succ.inj h⟩
theorem OD{us:List Value}(h:us.length=1):∃a,us=[a]:=by refine gP (JZ h) fun a r e2_ h2=>?_;subst e2_;cases len0 h2;exact⟨a,Z⟩
theorem Qc{us:List Value}(h:us.length=2):∃a b,us=[a,b]:=by refine gP (JZ h) fun a r e2_ h2=>?_;subst e2_;obtain⟨b,rfl⟩:=OD h2;exact⟨a,b,Z⟩
theorem Pn{us:List Value}(h:us.length=3):∃a b c,us=[a,b,c]:=by refine gP (JZ h) fun a r e2_ h2=>?_;subst e2_;obtain⟨b,c,rfl⟩:=Qc h2;exact⟨a,b,c,Z⟩
theorem RG{us:List Value}(h:us.length=4):∃a b c d,us=[a,b,c,d]:=by refine gP (JZ h) fun a r e2_ h2=>?_;subst e2_;obtain⟨b,c,d,rfl⟩:=Pn h2;exact⟨a,b,c,d,Z⟩
end L2
namespace L2
open PySem PySem.Spec PyProof.Rows
open Sem (wp)
noncomputable def cJ(h:Heap)(ea:Addr):Prop:=∃o vs,h.get? ea=some o/\o.data= .fields vs/\vs[2]? =some Value.none
theorem cJ.keeps {h h':Heap} {ea:Addr} (c:cJ h ea) (k:∀o,h.get? ea=some o->h'.get? ea=some o):cJ h' ea:=by refine dB c fun o vs e d n=>?_;exact⟨o,vs,k o e,d,n⟩
noncomputable def Keeps{α:Type}(P:Heap->Prop):Sem α->Prop
 | .pure _=>True
 | .raise _=>True
 | .unsupported _=>True
 | .finish _=>True
 | .rule _ k=>Keeps P (k ())
 | .at _ k=>Keeps P (k ())
 | .load _ _ k=>∀o,Keeps P (k o)
 | .update a _ f k=>(∀h,P h->P (h.update a f))/\Keeps P (k ())
 | .alloc o k=>(∀h,P h->P (h.push o))/\∀a,Keeps P (k a)
 | .loadIfAlive _ k=>∀o,Keeps P (k o)
 | .point _ k=>Keeps P (k ())
 | .register _ _=>True
 | .fresh k=>∀n,Keeps P (k n)
 | .ask k=>∀x,Keeps P (k x)
 | .choose _ _ k=>∀n,Keeps P (k n)
 | .os _ _ k=>∀x,Keeps P (k x)
 | .call ..=>False
 | .handled _ k=>∀x,Keeps P (k x)
 | .newGen _ k=>∀n,Keeps P (k n)
 | .genState _ k=>∀x,Keeps P (k x)
 | .resume ..=>False
 | .yield ..=>True
 | .stack k=>∀l,Keeps P (k l)
 | .fork ..=>True
 | .thread k=>∀n,Keeps P (k n)
 | .await ..=>True
section
variable{α β:Type}{P:Heap->Prop}{M:Model}{Γ:PySem.Ctx}{A:Around}
theorem Keeps.wp {t:Sem α} {Q:α->Pos->Shared->Prop} {E:Value->Pos->Shared->Prop} {p:Pos} {s:Shared} (hk:Keeps P t) (h:wp M Γ t Q E p s) (hp:P s.heap):
  Sem.wp M Γ t (fun a p' s'=>Q a p' s'/\P s'.heap) (fun e p' s'=>E e p' s'/\P s'.heap) p s:=by
 induction t generalizing p s with
 | pure a=>exact⟨h,hp⟩
 | raise e=>exact⟨h,hp⟩
 | unsupported w=>exact h
 | finish e=>exact h
 | rule tag k ih=>exact ih () hk h hp
 | «at» q k ih=>exact ih () hk h hp
 | load a part k ih=>obtain⟨o,ho,h⟩:=h;exact⟨o,ho,ih o (hk o) h hp⟩
 | update a part f k ih=>exact⟨h.1,ih () hk.2 h.2 (hk.1 _ hp)⟩
 | alloc o k ih=>exact ih _ (hk.2 _) h (hk.1 _ hp)
 | loadIfAlive a k ih=>exact ih _ (hk _) h hp
 | point l k ih=>exact ih () hk h hp
 | register a k ih=>exact h
 | fresh k ih=>exact ih _ (hk _) h hp
 | ask k ih=>exact ih _ (hk _) h hp
 | choose src n k ih=>exact⟨h.1,ih _ (hk _) h.2 hp⟩
 | os q l k ih=>exact ih _ (hk _) h hp
 | call c hd g l k ih=>exact hk.elim
 | handled own k ih=>exact ih _ (hk _) h hp
 | newGen c k ih=>exact ih _ (hk _) h hp
 | genState g k ih=>obtain⟨st,e,h⟩:=h;exact⟨st,e,ih _ (hk _) h hp⟩
 | resume g r l k ih=>exact hk.elim
 | yield v g l k ih=>exact h
 | stack k ih=>exact ih _ (hk _) h hp
 | fork c k ih=>exact h
 | thread k ih=>exact ih _ (hk _) h hp
 | await a t b l k ih=>exact h
theorem Keeps.any {t:Sem α} {Q:α->Shared->Prop} {E:Value->Shared->Prop} {s:Shared} (hk:Keeps P t) (hp:P s.heap) (h:wpAny M A t Q E s):wpAny M A t (fun a s'=>Q a s'/\P s'.heap) (fun e s'=>E e s'/\P s'.heap) s:=
 fun Γ p hΓ=>hk.wp (h Γ p hΓ) hp
theorem Keeps.bind {m:Sem α} {f:α->Sem β} (hm:Keeps P m) (hf:∀a,Keeps P (f a)):Keeps P (m>>=f):=by
 show Keeps P (Sem.bind m f);induction m with
 | pure a=>exact hf a
 | raise e=>trivial
 | unsupported w=>trivial
 | finish e=>trivial
 | rule tag k ih=>exact ih () hm
 | «at» q k ih=>exact ih () hm
 | load a part k ih=>exact fun o=>ih o (hm o)
 | update a part g k ih=>exact⟨hm.1,ih () hm.2⟩
 | alloc o k ih=>exact⟨hm.1,fun a=>ih a (hm.2 a)⟩
 | loadIfAlive a k ih=>exact fun o=>ih o (hm o)
 | point l k ih=>exact ih () hm
 | register a k ih=>trivial
 | fresh k ih=>exact fun o=>ih o (hm o)
 | ask k ih=>exact fun o=>ih o (hm o)
 | choose src n k ih=>exact fun o=>ih o (hm o)
 | os q l k ih=>exact fun o=>ih o (hm o)
 | call c hd g l k ih=>exact hm.elim
 | handled own k ih=>exact fun o=>ih o (hm o)
 | newGen c k ih=>exact fun o=>ih o (hm o)
 | genState g k ih=>exact fun o=>ih o (hm o)
 | resume g r l k ih=>exact hm.elim
 | yield v g l k ih=>trivial
 | stack k ih=>exact fun o=>ih o (hm o)
 | fork c k ih=>trivial
 | thread k ih=>exact fun o=>ih o (hm o)
 | await a t b l k ih=>trivial
end
section
variable{ea:Addr}
theorem qU{h:Heap}{a:Addr}{f:Obj->Obj}(c:cJ h ea)(hf:∀o vs,o.data= .fields vs->∃ws,(f o).data= .fields ws/\ws[2]? =vs[2]?):cJ (h.update a f) ea:=by
 refine dB c fun o vs e d n=>?_;by_cases q:a=ea
 ·subst q;refine aO (hf o vs d) fun ws d2 n2=>?_;exact⟨f o,ws,Heap.get?_update_self _ e (Obj.isFreed_of_fields d2),d2,n2.trans n⟩
 ·exact⟨o,vs,(Heap.get?_update_other _ _ q).trans e,d,n⟩
theorem Cm{h:Heap}{o:Obj}(c:cJ h ea):cJ (h.push o) ea:=c.keeps fun _ e=>Heap.get?_push_of_some _ e
theorem zO{h:Heap}{a:Addr}{i:Nat}{v:Value}(hi:i≠2)(c:cJ h ea):cJ (h.update a (Obj.mapFields (·.setIfInBounds i v))) ea:=
 qU c fun o vs d=>⟨_,Obj.data_mapFields d _,by rw[Array.getElem?_setIfInBounds_ne hi]⟩
theorem rZ{P:Heap->Prop}{a:Addr}:Keeps P (load a):=fun _=>trivial
theorem qx{P:Heap->Prop}:Keeps P (stack:Sem (List (Code×Pos))):=fun _=>trivial
theorem jz{P:Heap->Prop}{α:Type}{c:Prop}[Decidable c]{x y:Sem α}(h1:Keeps P x)(h2:Keeps P y):Keeps P (if c then x else y):=by
 by_cases h:c
 ·rw[if_pos h];exact h1
 ·rw[if_neg h];exact h2
theorem mW{v:Value}{i:Nat}:Keeps (cJ · ea) (field v i):=by
  unfold field fieldsOf
  repeat' first
    | exact trivial
    | exact rZ
    | (refine Keeps.bind ?_ fun _=>?_)
    | split
theorem lG{v x:Value}{i:Nat}(hi:i≠2):Keeps (cJ · ea) (setField v i x):=by
 unfold setField updateField;cases v with
 | ref a=>
  refine rZ.bind fun o=>?_;cases o.data with
  | fields vs=>exact jz ⟨fun h c=>zO hi c,trivial⟩ trivial
  | _=>trivial
 | _=>trivial
theorem jY{e:Value}{f:Option Addr}:Keeps (cJ · ea) (setFlight e f):=by unfold setFlight;exact mW.bind fun tb=>jz (lG (by decide)) trivial
theorem Dd{a b c d e:Value}{l:List Value}:Keeps (cJ · ea) (EntryCells.newEntry a b c d e l):=by
  unfold EntryCells.newEntry newFields newObj
  dsimp only
  repeat' first
    | exact trivial
    | exact⟨fun h c=>Cm c,fun _=>trivial⟩
    | (refine Keeps.bind ?_ fun _=>?_)
    | (refine jz ?_ ?_)
    | split
theorem Ck{f:Addr}{b:Bool}:Keeps (cJ · ea) (entryPlaceOf f b):=by
 unfold entryPlaceOf;refine qx.bind fun l=>?_
 split<;>trivial
theorem vK:∀(l:List Env),Keeps (cJ · ea) (readyFrames l)
  | []=>trivial
  | env::outer=>by
    unfold readyFrames;cases env.frame with
    | none=>trivial
    | some f=>
      refine rZ.bind fun o=>jz trivial ?_;refine Keeps.bind ?_ fun im=>Keeps.bind ?_ fun bk=>Keeps.bind ⟨fun h c=>qU c fun o vs d=>⟨vs,d,Z⟩,trivial⟩ fun _=>vK outer
      · unfold behindIsImport
        repeat' first
          | exact trivial
          | exact mW
          | (refine Keeps.bind ?_ fun _=>?_)
          | (refine jz ?_ ?_)
      · unfold keptBack underTheClaimsCaller
        repeat' first
          | exact trivial
          | exact qx
          | (refine Keeps.bind ?_ fun _=>?_)
          | (refine jz ?_ ?_)
          | split
theorem yh{env:Env}:Keeps (cJ · ea) (PySem.frameOf env):=by
  unfold PySem.frameOf frameEnvs frameObject
  repeat' first
    | exact trivial
    | exact qx
    | exact vK _
    | (refine Keeps.bind ?_ fun _=>?_)
    | split
theorem xF{e:Value}{env:Env}:Keeps (cJ · ea) (noteFrame e env):=by
 unfold noteFrame;cases env.frame with
 | none=>trivial
 | some f=>
  refine mW.bind fun hd=>?_
  have fin:Keeps (cJ · ea) (do setField e 1 (<-EntryCells.newEntry hd (<-PySem.frameOf env) .none (rawInt f) .none (<-entryPlaceOf f (hd != .none)))):=
   yh.bind fun fr=>Ck.bind fun pl=>Dd.bind fun en=>lG (by decide)
  exact jz (mW.bind fun x=>jz trivial ((lG (by decide)).bind fun _=>fin)) fin
theorem qQ{e:Value}{env:Env}:Keeps (cJ · ea) (leaving env e):=xF.bind fun _=>jY
end
section
variable{M:Model}{A:Around}{E:Value->Shared->Prop}{s:Shared}{base:Heap}{env:Env}{outer l:List Env}{L e:Addr}{cls a0:Value}{Q:Unit->Shared->Prop}
theorem vP(hfr:A.frames=some (env::outer))(hf:env.frame=some L)(hfl:Heap.FlyingW base (env::outer) e cls a0 s.heap)(nc:cJ s.heap e)(hQ:∀h',Heap.FlyingW base outer e cls a0 h'->cJ h' e->s.heap.UpToSlots h'->Q () {s with heap:=h'}):wpAny M A (leaving env (.ref e)) Q E s:=
 wpAny_mono (qQ.any nc (wpAny_leaves_onW (Q:=fun _ s'=>∃h',s'={s with heap:=h'}/\Heap.FlyingW base outer e cls a0 h'/\s.heap.UpToSlots h') (E:=fun _ _=>False) hfr hf hfl fun h' a b=>⟨h',Z,a,b⟩))
  (fun _ s' ⟨⟨h',e',a,b⟩,n⟩=>by subst e';exact hQ h' a n b) fun _ _ z=>z.1.elim
theorem yw{h:Heap}{args:List Value}(hfr:A.frames=some (env::outer))(hf:env.frame=some L)(hkb:base.StaysIn h)(hl:h.FunFrames base (env::outer))(hx:Heap.MadeExcOf h s.heap e cls args)(hQ:∀h' t,Heap.FlyingW base outer e cls (.ref t) h'->cJ h' e->h'.TupAt t args->base.get? t=none->s.heap.UpToSlots h'->Q () {s with heap:=h'}):wpAny M A (leaving env (.ref e)) Q E s:=by
 have nc:cJ s.heap e:=by refine aO hx.there fun t he _=>?_;exact⟨_,_,he,Z,Z⟩
 exact wpAny_mono (qQ.any nc (wpAny_leaves_madeW (Q:=fun _ s'=>∃h' t,s'={s with heap:=h'}/\Heap.FlyingW base outer e cls (.ref t) h'/\h'.TupAt t args/\base.get? t=none/\s.heap.UpToSlots h') (E:=fun _ _=>False) hfr hf hkb hl hx fun h' t a b c d=>⟨h',t,Z,a,b,c,d⟩))
  (fun _ s' ⟨⟨h',t,e',a,b,c,d⟩,n⟩=>by subst e';exact hQ h' t a n b c d) fun _ _ z=>z.1.elim
theorem Gx(hfr:A.frames=some (env::outer))(hf:env.frame=some L)(hfl:Heap.FlyingW base (env::outer) e cls a0 s.heap)(nc:cJ s.heap e)(hQ:∀h',Heap.HeldW base (env::outer) e cls a0 L h'->cJ h' e->s.heap.UpToSlots h'->Q () {s with heap:=h'}):wpAny M A (noteFrame (.ref e) env) Q E s:=
 wpAny_mono (xF.any nc (wpAny_looks_onW (Q:=fun _ s'=>∃h',s'={s with heap:=h'}/\Heap.HeldW base (env::outer) e cls a0 L h'/\s.heap.UpToSlots h') (E:=fun _ _=>False) hfr hf hfl fun h' a b=>⟨h',Z,a,b⟩))
  (fun _ s' ⟨⟨h',e',a,b⟩,n⟩=>by subst e';exact hQ h' a n b) fun _ _ z=>z.1.elim
theorem Mv(hh:Heap.HeldW base l e cls a0 L s.heap)(nc:cJ s.heap e)(hQ:∀h',Heap.FlyingW base l e cls a0 h'->cJ h' e->s.heap.UpToSlots h'->Q () {s with heap:=h'}):wpAny M A (setFlight (.ref e) none) Q E s:=
 wpAny_mono (jY.any nc (wpAny_landsW (Q:=fun _ s'=>∃h',s'={s with heap:=h'}/\Heap.FlyingW base l e cls a0 h'/\s.heap.UpToSlots h') (E:=fun _ _=>False) hh fun h' a b=>⟨h',Z,a,b⟩))
  (fun _ s' ⟨⟨h',e',a,b⟩,n⟩=>by subst e';exact hQ h' a n b) fun _ _ z=>z.1.elim
theorem yH(hh:Heap.FlyingW base l e cls a0 s.heap)(nc:cJ s.heap e)(hQ:∀h',Heap.FlyingW base l e cls a0 h'->cJ h' e->s.heap.UpToSlots h'->Q () {s with heap:=h'}):wpAny M A (setFlight (.ref e) none) Q E s:=
 wpAny_mono (jY.any nc (lands_againW (Q:=fun _ s'=>∃h',s'={s with heap:=h'}/\Heap.FlyingW base l e cls a0 h'/\s.heap.UpToSlots h') (E:=fun _ _=>False) hh fun h' a b=>⟨h',Z,a,b⟩))
  (fun _ s' ⟨⟨h',e',a,b⟩,n⟩=>by subst e';exact hQ h' a n b) fun _ _ z=>z.1.elim
end
structure Flew(P:Program)(w:World)(outer:List Env)(H H':Hp)(h B h':Heap)(ea:Addr):Prop where
 hok:tM P w H' B
 keep:∀b o,h.get? b=some o->H b=none->b∉frs outer->B.get? b=some o
 slot:∀b o,h.get? b=some o->b∈frs outer->∃sl,h'.get? b=some {o with slots:=sl}
 free:∀b o,h.get? b=some o->H b=none->H' b=none
 there:∀b o,h.get? b=some o->b∉frs outer->∃o',B.get? b=some o'
 tups:∀b xs,H b=some (.tup xs)->H' b=some (.tup xs)
 frzs:∀b o u,H b=some (.frz o u)->H' b=some (.frz o u)
 tbls:∀b ps,H b=some (.tbl ps)->∃more,H' b=some (.tbl (ps++more))
 exc:H' ea=none
noncomputable def kj(P:Program)(w:World):Gy:=fun outer H s E e s'=>
 ∃(ea:Addr)(cls a0:Value)(H':Hp)(B:Heap),e= .ref ea/\Heap.FlyingW B outer ea cls a0 s'.heap/\cJ s'.heap ea/\s'.os=s.os/\AllBare s'.gens/\Flew P w outer H H' s.heap B s'.heap ea/\E cls none H'
section
variable{P:Program}{w:World}{outer:List Env}{H H':Hp}{h B h' h'':Heap}{ea:Addr}
theorem Flew.up {cls a0:Value} (f:Flew P w outer H H' h B h' ea) (fl:Heap.FlyingW B outer ea cls a0 h') (up:h'.UpToSlots h''):Flew P w outer H H' h B h'' ea:=
 ⟨f.hok,f.keep,fun b o e hb=>by obtain⟨sl,e1⟩:=f.slot b o e hb;refine FN (fl.2.2.1.mem hb) fun _ o1 e2 nf=>?_;rw[e1] at e2;cases e2;obtain⟨sl',e3⟩:=up b _ e1 nf;exact⟨sl',e3⟩,f.free,f.there,f.tups,f.frzs,f.tbls,f.exc⟩
theorem Flew.un (f:Flew P w outer H H' h B h' ea) (st:B.StaysIn h'):Un (frs outer) [] H H' h h' where
 keep:=fun b o e n hb _=>st b o (f.keep b o e n hb)
 slot:=fun b o e _ hb _=>f.slot b o e hb
 free:=fun b o e n _=>f.free b o e n
 there:=fun b o e _=>by
  by_cases hb:b∈frs outer
  ·obtain⟨sl,e1⟩:=f.slot b o e hb;exact⟨_,e1⟩
  ·obtain⟨o',e1⟩:=f.there b o e hb;exact⟨o',st b o' e1⟩
 tups:=f.tups
 frzs:=f.frzs
 tbls:=f.tbls
theorem Flew.ok (f:Flew P w outer H H' h B h' ea) (st:B.StaysIn h'):tM P w H' h':=f.hok.kept st
end
section
variable{P:Program}{w:World}{K:W.Frag}{mg:Str->Option Value}{base:Heap}{N:List Str}{qual:Str}{scope:Scope}{f:Addr}{cd:Value}{A:Around}{outer:List Env}{s₀:Shared}{H₀:Hp}{E:XK}
theorem K3:uA (kj P w) (jx (kj P w) P w K mg base N qual scope f cd A outer s₀ H₀ E) E:=by
 intro pins σ H s e s' I hc;refine dJ hc fun ea cls a0 H' B e5_ fl nc os bare fw q=>?_;subst e5_;have fr:frs (envOfC qual scope s₀.heap.objs.size f cd::outer)=s₀.heap.objs.size::frs outer:=Z
 have neL:∀b o,s₀.heap.get? b=some o->b∉frs outer->b∉frs (envOfC qual scope s₀.heap.objs.size f cd::outer):=fun b o e hb z=>by
  rw[fr] at z;rcases List.mem_cons.mp z with z | z
  ·have:=Heap.lt_size e;rw[z] at this;exact absurd this (Nat.lt_irrefl _)
  ·exact hb z
 show wpAny (model P w) (A.deeper (envOfC qual scope s₀.heap.objs.size f cd)) (leaving (envOfC qual scope s₀.heap.objs.size f cd) (.ref ea)) (fun _ s''=>kj P w outer H₀ s₀ E (.ref ea) s'') (fun e' s''=>kj P w outer H₀ s₀ E e' s'') s';refine vP I.ok.frames Z fl nc fun h'' fl'' nc'' up=>?_;have fu:=fw.up fl up;have ub:Un (frs outer) [] H₀ H s₀.heap s.heap:=I.base;refine⟨ea,cls,a0,H',B,Z,fl'',nc'',os.trans I.os,bare,⟨fw.hok,fun b o e n hb=>?_,fun b o e hb=>?_,fun b o e n=>?_,fun b o e hb=>?_,fun b xs e=>fw.tups b xs (ub.tups b xs e),fun b o u e=>fw.frzs b o u (ub.frzs b o u e),fun b ps e=>?_,fw.exc⟩,q⟩
 ·exact fw.keep b o (ub.keep b o e n hb (by simp)) (ub.free b o e n (by simp)) (neL b o e hb)
 ·obtain⟨sl,e1⟩:=ub.slot b o e (I.ok.frf b hb) hb (by simp);obtain⟨sl',e2⟩:=fu.slot b _ e1 (show b∈frs (envOfC qual scope s₀.heap.objs.size f cd::outer) by rw[fr];exact List.mem_cons_of_mem _ hb);exact⟨sl',e2⟩
 ·obtain⟨o',e1⟩:=ub.there b o e (by simp);exact fw.free b o' e1 (ub.free b o e n (by simp))
 ·obtain⟨o',e1⟩:=ub.there b o e (by simp);exact fw.there b o' e1 (neL b o e hb)
 ·obtain⟨m1,e1⟩:=ub.tbls b ps e;obtain⟨m2,e2⟩:=fw.tbls b _ e1;exact⟨m1++m2,by rw[e2,Array.append_assoc]⟩
noncomputable def Raises(X:Cx)(E:XK)(cls:Value):Prop:=∀(pins:List (Addr×Obj))(σ:St)(H:Hp)(s:Shared)(ea:Addr)(h':Heap)(vs:List Value),Inv X pins σ H s->Heap.MadeExcOf s.heap h' ea cls vs->E cls none H->X.xe (.ref ea) {s with heap:=h'}
theorem lq{cls:Value}:Raises (jx (kj P w) P w K mg base N qual scope f cd A outer s₀ H₀ E) E cls:=by
 intro pins σ H s ea h' vs I hx q;have fr:frs (envOfC qual scope s₀.heap.objs.size f cd::outer)=s₀.heap.objs.size::frs outer:=Z
 have neL:∀b o,s₀.heap.get? b=some o->b∉frs outer->b∉frs (envOfC qual scope s₀.heap.objs.size f cd::outer):=fun b o e hb z=>by
  rw[fr] at z;rcases List.mem_cons.mp z with z | z
  ·have:=Heap.lt_size e;rw[z] at this;exact absurd this (Nat.lt_irrefl _)
  ·exact hb z
 have stk:s.heap.FunFrames base (envOfC qual scope s₀.heap.objs.size f cd::outer):=I.stack;have hin:∀env∈(envOfC qual scope s₀.heap.objs.size f cd::outer),∀b,env.frame=some b->b∈frs (envOfC qual scope s₀.heap.objs.size f cd::outer):=fun env he b hb=>List.mem_filterMap.mpr ⟨env,he,hb⟩
 have sf:∀b u,H b=some u->b∉frs (envOfC qual scope s₀.heap.objs.size f cd::outer):=fun b u e z=>by have n:=I.stkFree b z;rw[e] at n;cases n
 show wpAny (model P w) (A.deeper (envOfC qual scope s₀.heap.objs.size f cd)) (leaving (envOfC qual scope s₀.heap.objs.size f cd) (.ref ea)) (fun _ s''=>kj P w outer H₀ s₀ E (.ref ea) s'') (fun e' s''=>kj P w outer H₀ s₀ E e' s'') {s with heap:=h'};refine yw (base:=W.hideAll s.heap (frs (envOfC qual scope s₀.heap.objs.size f cd::outer))) (h:=s.heap) I.ok.frames Z (fun b o e=>W.of_hideAll _ e) (W.funFrames_hide stk hin) hx fun h'' t fl nc tup hbt up=>?_;have ub:Un (frs outer) [] H₀ H s₀.heap s.heap:=I.base;have toB:∀b o,s.heap.get? b=some o->b∉frs (envOfC qual scope s₀.heap.objs.size f cd::outer)->(W.hideAll s.heap (frs (envOfC qual scope s₀.heap.objs.size f cd::outer))).get? b=some o:=fun b o e hb=>W.hideAll_get _ e hb;refine⟨ea,cls,.ref t,H,_,Z,fl,nc,I.os,I.bare,⟨fun a o e=>?_,fun b o e n hb=>?_,fun b o e hb=>?_,fun b o e n=>?_,fun b o e hb=>?_,ub.tups,ub.frzs,ub.tbls,?_⟩,q⟩
 ·refine(I.hok a o e).stay (fun b u hb g=>toB b u g ?_) (fun _ g=>g) fun _ _ g=>g;rcases hb with hb | hb
  ·rw[hb];exact sf a o e
  ·exact sf b _ hb
 ·exact toB b o (ub.keep b o e n hb (by simp)) (neL b o e hb)
 ·obtain⟨sl,e1⟩:=ub.slot b o e (I.ok.frf b hb) hb (by simp);refine FN (I.funs.mem hb) fun _ o1 e2 nf=>?_;rw[e1] at e2;cases e2;obtain⟨sl',e3⟩:=up b _ (hx.keeps b _ e1) nf;exact⟨sl',e3⟩
 ·exact ub.free b o e n (by simp)
 ·obtain⟨o',e1⟩:=ub.there b o e (by simp);exact⟨o',toB b o' e1 (neL b o e hb)⟩
 ·cases g:H ea with
  | none=>rfl
  | some u=>
   have z:∃o,s.heap.get? ea=some o:=by
    have:=(I.hok ea u g);cases u with
    | lst xs=>obtain⟨_,_,_,_,e⟩:=this;exact⟨_,e⟩
    | tup xs=>obtain⟨_,_,_,o,e,_⟩:=this;exact⟨o,e⟩
    | dK kvs=>obtain⟨_,_,_,_,o,_,_,e,_⟩:=this;exact⟨o,e⟩
    | dT kvs=>obtain⟨_,_,_,_,o,_,_,e,_⟩:=this;exact⟨o,e⟩
    | set S n=>obtain⟨o,_,_,_,e,_⟩:=this;exact⟨o,e⟩
    | ins C dx fs=>obtain⟨_,_,_,e,_⟩:=this;exact⟨_,e⟩
    | own y=>exact this
    | xd fs=>obtain⟨_,⟨o,_,_,e,_⟩,_⟩:=this;exact⟨o,e⟩
    | rng lo hi=>obtain⟨_,_,_,e⟩:=this;exact⟨_,e⟩
    | frz ob u=>obtain⟨e,_⟩:=this;exact⟨_,e⟩
    | tbl ps=>exact⟨_,this⟩
    | met f y=>exact⟨_,this⟩
    | ext φ=>obtain⟨_,e,_⟩:=this;exact e
   obtain⟨o,e⟩:=z;rw[hx.new] at e;cases e
end
theorem KD{K:W.Frag}{h:Heap}{C:Addr}{bmB:List Value}{newId:String}(KX:K.In h)(q:W.excIn K C bmB newId=true):
  ∃bm nsA nm qn bs hd sn sub ab col dd k0 k1 k2 k3 k5 mN,h.get? C=some (excClassObj nm qn C nsA bs bm hd sn sub ab col dd k0 k1 k2 k3 k5 newId)/\h.Ns nsA mN/\mN "__init__"=none/\OwnTail h bmB bm:=by
 unfold W.excIn at q
 split at q
 ·rename_i dd cd sl look
  split at q
  ·rename_i C2 bm k0 k1 k2 k3 n k5 hmro hsl
   simp only[Bool.and_eq_true,beq_iff_eq,Bool.not_eq_true'] at q;obtain⟨⟨⟨⟨⟨qC,qn'⟩,qdel⟩,qtail⟩,qok⟩,qinit⟩:=q;cases qC;cases qn';obtain⟨nm,bs,mro,nsA,qn,hd,sn,sub,ab,col,del⟩:=cd;have hmro':mro=_::bm:=hmro;have qdel':del=false:=qdel;cases hmro';cases qdel'
   have esl:sl=#[k0,k1,k2,k3,some (.builtin newId),k5]:=by
    cases sl with
    | mk l=>exact congrArg Array.mk hsl
   cases esl;exact⟨bm,nsA,nm,qn,bs,hd,sn,sub,ab,col,dd,k0,k1,k2,k3,k5,_,KX _ _ look,.of_isNs (W.isNs_of_in KX qok),W.nsMap_none_of_in KX qok qinit,W.tail_of_in KX qtail⟩
  ·exact absurd q Bool.false_ne_true
 ·exact absurd q Bool.false_ne_true
abbrev mroVE:List Value:=[.type "ValueError",.type "Exception",.type "BaseException",.type "object"]
section
variable{X:Cx}{E:XK}{C:Addr}{x:Str}
noncomputable def NZ(E:XK)(cls:Value)(t:TA):TS:=fun _ σ H=>t σ H fun vs H1=>vs.length<=sizeLine/\E cls none H1
theorem jo{e : Expr}{es : List Expr}{t : TA}{np cpos pos : Pos}(hc : X.calm = true)(hR : Raises X E (.ref C))(hg : Gl X x)(hm : X.mg x = some (.ref C))(hE : W.excIn X.K C mroVE "ValueError.__new__" = true)(ha:PA X (e::es) t)(hdb:(x==("__debug__":Str))=false:=by decide)(he:starEach (e::es) X.env=(false,eval e X.env)::starEach es X.env:=by rfl)(hpl:(backTo cpos (starEach es X.env)).any (·.1)=false:=by rfl):
    PS X (.Raise (some (.Call (.Name x np) (e::es) [] cpos)) none pos) (NZ E (.ref C) t):=by
  intro pins s σ H D I hq;refine zb (KD (h:=X.base) I.ok.mod.kin hE) fun bm nsA p2_=>?_;obtain⟨nm,qn,bs,hd,sn,sub,ab,col,dd,k0,k1,k2,k3,k5,mN,hC,hN,hni,T⟩:=p2_
  refine wpAny_Raise_call_subU (C:=C) (nm:=nm) (q:=qn) (N:=nsA) (bs:=bs) (bm:=bm) (hdct:=hd) (sn:=sn) (sub:=sub) (ab:=ab) (col:=col) (dd:=dd) (k0:=k0) (k1:=k1) (k2:=k2) (k3:=k3) (k5:=k5)
    PySem.F.excBase_ValueError (by decide) PySem.F.excBase_ValueError (mN:=mN) (T.hasType (by decide)) (I.ok.hd hc) (by rw[he];show(false||(backTo cpos (starEach es X.env)).any (·.1))=false;rw[hpl];rfl) hni (mQ I hg hm ⟨Z,?_⟩ hdb)
  have h1:=ha cpos pins s σ H _ I hq;rw[he] at h1⊢;refine Calls.evalArgs_plain (dF h1 fun us s2 ⟨vs,H2,I2,r,hz,q⟩=>⟨Z,?_,?_⟩)
  · show us.length<=sizeLine;rw[<-r.length];exact hz
  · exact⟨I2.bk _ _ hC,hN.keeps I2.bk,T.keeps I2.bk,fun h' ea hx=>hR pins σ H2 s2 ea h' us I2 hx q⟩
end
noncomputable def jf(ea C:Addr):HO:= .ext fun h=>∃o vs,h.get? ea=some o/\o.cls= .ref C/\o.data= .fields vs/\vs[2]? =some Value.none
noncomputable def Cx.marked (X:Cx) (ea:Addr):Cx:={X with A:=X.A.mark (some (.ref ea)),calm:=false,xe:=fun _ _=>False}
section
variable{X:Cx}{pins:List (Addr×Obj)}{σ:St}{H:Hp}{s:Shared}{ea:Addr}
theorem Cx.Ok.marked (ok:X.Ok) (ea:Addr):(X.marked ea).Ok:=
 ⟨ok.mod,ok.kind,ok.glob,ok.blt,ok.above,ok.inj,ok.has,ok.cab,(fun z=>absurd (show false=true from z) (by decide)),ok.frames,ok.stk,ok.exf,ok.bs,ok.bsz,ok.noex,ok.exfs,ok.funs,ok.frf⟩
theorem Inv.marked (I:Inv X pins σ H s) (ea:Addr):Inv (X.marked ea) pins σ H s:=⟨I.ok.marked ea,I.os,I.bare,I.base,I.loc,I.cell,I.free,I.freeC,I.pin,I.hok,I.len⟩
theorem Inv.unmarked (ok:X.Ok) (I:Inv (X.marked ea) pins σ H s):Inv X pins σ H s:=⟨ok,I.os,I.bare,I.base,I.loc,I.cell,I.free,I.freeC,I.pin,I.hok,I.len⟩
theorem Inv.gone {i:Nat} {n:Str} {h':Heap} {v:Option Value} {m:Str->Option Value} {t:Nat} (I:Inv X pins σ H s) (hN:X.N.Nodup) (hi:X.N[i]? =some n) (hk:X.env.scope.names.lookup n=some .local)
  (hl:∀(j:Nat)(x:Str)(v:V),X.N[j]? =some x->σ[j]? =some (some v)->Mr X.env.scope x->∃u,RelV v u/\Look X.env s.heap m x u)
  (hn':h'.Ns X.env.locals (fun x=>if x=n then v else m x)) (hs:Heap.SameBut X.env.locals s.heap h'):Inv X pins (σ.set i none) H {s with heap:=h',toks:=t}:=by
 have ltL:∀b o,X.s₀.heap.get? b=some o->b≠X.env.locals:=fun b o e=>Nat.ne_of_lt (Nat.lt_of_lt_of_le (Heap.lt_size e) I.ok.above);refine⟨I.ok,I.os,I.bare,⟨fun b o e q hb hx=>?_,fun b o e q hb hx=>?_,I.base.free,fun b o e hx=>?_,I.base.tups,I.base.frzs,I.base.tbls⟩,⟨_,hn',fun j y v' e1 e2 e3=>?_⟩,fun y c e=>?_,I.free,I.freeC,fun p hp=>?_,fun b u e=>?_,by rw[List.length_set];exact I.len⟩
 ·exact(hs.2 b (ltL b o e)).trans (I.base.keep b o e q hb hx)
 ·obtain⟨sl,e1⟩:=I.base.slot b o e q hb hx;exact⟨sl,(hs.2 b (ltL b o e)).trans e1⟩
 ·obtain⟨o',e1⟩:=I.base.there b o e hx;exact⟨o',(hs.2 b (ltL b o e)).trans e1⟩
 ·by_cases hj:j=i
  ·subst hj;rw[List.getElem?_set] at e2;simp at e2
  ·rw[List.getElem?_set_ne (Ne.symm hj)] at e2;refine aO (hl j y v' e1 e2 e3) fun u r q=>?_;refine⟨u,r,?_⟩;rcases q with⟨k,e⟩ | ⟨k,c,e,z⟩
   ·refine .inl ⟨k,?_⟩;have ne:y≠n:=fun z=>hj (uY hN e1 (z▸hi));simp[ne,e]
   ·exact .inr ⟨k,c,e,z.sameBut hs (I.cne y c e)⟩
 ·obtain⟨w',z⟩:=I.cell y c e;exact⟨w',z.sameBut hs (I.cne y c e)⟩
 ·refine Qq (I.pin p hp) fun e q ne nf d=>?_;exact⟨(hs.2 p.1 ne).trans e,q,ne,nf,d⟩
 ·refine(I.hok b u e).stay (fun c w' hc q=>(hs.2 c ?_).trans q) (fun _ q=>q) fun _ _ q=>q;intro z;rcases hc with hc | hc
  ·rw[<-hc,z,I.free] at e;cases e
  ·rw[z,I.free] at hc;cases hc
noncomputable def Pz(i:Nat)(D:Ends):Ends:={nx:=fun σ H=>D.nx (σ.set i none) H,rt:=D.rt,bk:=fun σ H=>D.bk (σ.set i none) H,ct:=fun σ H=>D.ct (σ.set i none) H}
end
noncomputable def GD(K:W.Frag)(H:Hp)(rec:V->V->Bool->Prop)(p q:Addr)(b:Bool):Prop:=
 ∃xs ys,(aP K H p xs/\aP K H q ys/\xs.length≠ys.length/\b=false)\/
  (((aP K H p xs/\aP K H q ys)\/(d7 K H p xs/\d7 K H q ys))/\xs.length=ys.length/\∃e:Nat->Bool,(∀i x y,xs[i]? =some x->ys[i]? =some y->rec x y (e i))/\b=(List.range xs.length).all e)
noncomputable def Am(K:W.Frag)(H:Hp):Nat->V->V->Bool->Prop
 | 0,x,y,b=>(∃a,x= .ref a/\y= .ref a/\b=true)\/(jZ x=true/\jZ y=true/\b=JV x y)
 | n+1,x,y,b=>Am K H n x y b\/∃p q,x= .ref p/\y= .ref q/\p≠q/\GD K H (Am K H n) p q b
section
variable{X:Cx}{pins:List (Addr×Obj)}{σ:St}{H:Hp}{s:Shared}
theorem Cy{A:Around}{rec:V->V->Bool->Prop}{p q:Addr}{b:Bool}(I:Inv X pins σ H s)(hu:A.units<cLine)(hr:∀x y b u v,rec x y b->RelV x u->RelV y v->SeqAt.EqAt A.in1 s u v b)(h:GD X.K H rec p q b):
  SeqAt.RcAt A s (.ref p) (.ref q) b/\SeqAt.RcNeAt A s (.ref p) (.ref q) (!b):=by
 obtain⟨xs,ys,⟨h1,h2,hl,rfl⟩ | ⟨hk,hl,e,he,rfl⟩⟩:=h
 ·refine bL (I.list h1) fun its r pl _=>?_;refine bL (I.list h2) fun its2 r2 pl2 _=>?_;have e1:=r.length;have e2:=r2.length
  have hne:(its.toArray.size !=its2.toArray.size)=true:=by rw[bne_iff_ne];simp only[List.size_toArray];omega
  exact⟨SeqAt.RcAt.lists_lengths pl.isList pl2.isList hne hu,SeqAt.RcNeAt.lists_lengths pl.isList pl2.isList hne hu⟩
 ·have items:∀(its its2:List Value),Vals xs its->Vals ys its2->∀j(h1:j<its.toArray.size)(h2:j<its2.toArray.size),SeqAt.EqAt A.in1 s its.toArray[j] its2.toArray[j] (e j):=by
   intro its its2 r r2 j h1 h2;have l1:=r.length;have l2:=r2.length;simp only[List.size_toArray] at h1 h2;have g1:j<xs.length:=by omega
   have g2:j<ys.length:=by omega
   refine aO (r.get (i:=j) (x:=xs[j]) (by simp[g1])) fun u hu1 ru=>?_;refine aO (r2.get (i:=j) (x:=ys[j]) (by simp[g2])) fun v hv1 rv=>?_
   have eu:its.toArray[j]=u:=by
    have:its[j]? =some its[j]:=by simp[h1]
    rw[this] at hu1;simpa using hu1
   have ev:its2.toArray[j]=v:=by
    have:its2[j]? =some its2[j]:=by simp[h2]
    rw[this] at hv1;simpa using hv1
   rw[eu,ev];exact hr _ _ _ _ _ (he j _ _ (by simp[g1]) (by simp[g2])) ru rv
  rcases hk with⟨h1,h2⟩ | ⟨h1,h2⟩
  ·refine bL (I.list h1) fun its r pl _=>?_;refine bL (I.list h2) fun its2 r2 pl2 _=>?_;have l1:=r.length;have l2:=r2.length;have hsz:its.toArray.size=its2.toArray.size:=by simp only[List.size_toArray];omega
   have a1:=SeqAt.RcAt.lists pl.isList pl2.isList hsz hu (items its its2 r r2);have a2:=SeqAt.RcNeAt.lists pl.isList pl2.isList hsz hu (items its its2 r r2);have es:its.toArray.size=xs.length:=by simp only[List.size_toArray];omega
   rw[es] at a1 a2;exact⟨a1,a2⟩
  ·refine bL (I.tuple h1) fun its r pl _=>?_;refine bL (I.tuple h2) fun its2 r2 pl2 _=>?_;have l1:=r.length;have l2:=r2.length;have t1:s.heap.IsTuple p its.toArray:=pl;have t2:s.heap.IsTuple q its2.toArray:=pl2;have a1:=SeqAt.RcAt.tuples t1 t2 hu (items its its2 r r2);have a2:=SeqAt.RcNeAt.tuples t1 t2 hu (items its its2 r r2);have es:min its.toArray.size its2.toArray.size=xs.length:=by simp only[List.size_toArray];omega
   have ez:(its.toArray.size==its2.toArray.size)=true:=by rw[beq_iff_eq];simp only[List.size_toArray];omega
   rw[es,ez,Bool.and_true] at a1 a2;exact⟨a1,a2⟩
theorem sW(I:Inv X pins σ H s):∀(n:Nat)(A:Around),A.units+n<cLine->∀x y b u v,Am X.K H n x y b->RelV x u->RelV y v->SeqAt.EqAt A s u v b
 | 0,A,hu,x,y,b,u,v,h,rx,ry=>by
  rcases h with⟨a,rfl,rfl,rfl⟩ | ⟨f1,f2,rfl⟩
  ·cases rx;cases ry;exact SeqAt.EqAt.same _
  ·exact Mp rx ry f1 f2
 | n+1,A,hu,x,y,b,u,v,h,rx,ry=>by
  rcases h with h | ⟨p,q,rfl,rfl,ne,h⟩
  ·exact sW I n A (by omega) x y b u v h rx ry
  ·cases rx;cases ry;refine SeqAt.EqAt.of_refs ne (Cy (A:=A) I (by omega) (fun x y b u v h rx ry=>sW I n A.in1 ?_ x y b u v h rx ry) h).1;show A.units+1+n<cLine;omega
noncomputable def Jv(K:W.Frag)(neg:Bool):R2:=fun x y H Q=>∃n p q b,n<=8/\x= .ref p/\y= .ref q/\GD K H (Am K H n) p q b/\Q (.bl (if neg then !b else b)) H
theorem NQ(hu:X.A.units+64<cLine):tE X (compareOp .Eq) (Jv X.K false):=by intro pins s σ H x y v u Q I rx ry h;refine dG h fun n p q b hn e5_ e6_ he k=>?_;subst e5_;subst e6_;cases rx;cases ry;refine(Cy (A:=X.A) I (by omega) (fun x y b u v h rx ry=>sW I n X.A.in1 ?_ x y b u v h rx ry) he).1 _ _ _ _ ⟨.bl b,H,I,Z,k⟩;show X.A.units+1+n<cLine;omega
theorem Nj(hu:X.A.units+64<cLine):tE X (compareOp .NotEq) (Jv X.K true):=by intro pins s σ H x y v u Q I rx ry h;refine dG h fun n p q b hn e5_ e6_ he k=>?_;subst e5_;subst e6_;cases rx;cases ry;refine(Cy (A:=X.A) I (by omega) (fun x y b u v h rx ry=>sW I n X.A.in1 ?_ x y b u v h rx ry) he).2 _ _ _ _ ⟨.bl (!b),H,I,Z,k⟩;show X.A.units+1+n<cLine;omega
end
noncomputable def Fb(lo st:Int)(n:Nat):It:=⟨fun i _=>i<n,fun i H x H'=>H'=H/\x= .int (lo+(i:Int) * st),fun i _=>n<=i⟩
theorem Ad{P:Program}{w:World}{K:PySem.W.Frag}{tg:Expr}(it:Addr)(lo st:Int)(n:Nat):Turn P w K tg (Fb lo st n) [it] it (fun i h=>IsRangeIter h it (lo+(i:Nat) * st) ((n:Int) - (i:Nat)) st) where
 mem:=by simp
 obj:=fun i h hst b hb=>by
  have e:b=it:=by simpa using hb
  subst e
  exact⟨_,hst,fun v z=>by have z':Data.fields _=Data.cell v:=z;cases z'⟩
 keep:=fun i h h' hst k=>k it (by simp) _ hst
 item:=by intro X hP hw hK hc i pins s σ H E I hf hst hg;subst hP hw hK;refine gM (hf it (by simp)) fun f0 f1 f2 f3 f4 f5=>?_;have W:=Walks.range (prog:=X.prog) (w:=X.w) (I.ok.hd hc) it lo st n;refine W.item i s _ _ hg hst fun v h' tk hv st' kk=>?_;obtain⟨t,rfl⟩:=hv;have I1:Inv X pins σ H {s with heap:=h',toks:=tk}:=I.turned (fun b o hb e=>kk b o (by simpa using hb) e) f0 f1 f3 f4 f5;exact⟨_,Z,zZ (s:={s with heap:=h',toks:=tk}) (n:="range_iterator") st' Z Z (by decide) ⟨.int (lo+(i:Int) * st),H,I1,⟨t,Z⟩,⟨Z,Z⟩,st',fun b hb=>(hf b hb).1⟩⟩
 done:=by intro X hP hw hK hc i pins s σ H E I hf hst hg;subst hP hw hK;refine gM (hf it (by simp)) fun f0 f1 f2 f3 f4 f5=>?_;exact wpAny_pyNext_range_end (I.ok.hd hc) hst (by have:n<=i:=hg;omega) fun h' eb=>⟨Z,I.turned (t':=s.toks) (fun b o hb e=>eb b o hb e) f0 f1 f3 f4 f5⟩
 self:=fun _ _ _ _ _ hst h=>wpAny_pyIter_rangeiter hst h
section
variable{X:Cx}{tg:Expr}
noncomputable def my(_:Addr):HO:= .dK []
theorem Inv.big {pins:List (Addr×Obj)} {σ:St} {H:Hp} {s:Shared} (I:Inv X pins σ H s):sysModules<s.heap.objs.size:=by have h:mainGlobals<s.heap.objs.size:=(I.mod.glob.keeps I.bk).lt;exact Nat.lt_trans (by decide) h
noncomputable def Oa:TE:=fun _ H Q=>∀p,H p=none->Q (.ref p) (upd H p (my p))
theorem Je{pos:Pos}:PE X (.Dict [] [] pos) Oa:=fun pins s σ H Q I h=>
 wpAny_Dict_empty ⟨.ref s.heap.objs.size,_,I.laid (a:=s.heap.objs.size) (o:=my s.heap.objs.size) (t':=s.toks) (fun _ _ q=>Heap.get?_push_of_some _ q) (Nat.le_refl _)
  ⟨Nat.zero_le _,beq_eq_false_iff_ne.mpr (Ne.symm (Nat.ne_of_lt I.big)),[],.nil,Heap.DictOf.new s.heap⟩,Z,h _ (I.hok.fresh (Nat.le_refl _))⟩
end
noncomputable def lu(CX:Gy)(X:Cx)(R:St->XK):Prop:=∀(pins:List (Addr×Obj))(σ:St)(H:Hp)(s:Shared)(e:Value)(s':Shared),Inv X pins σ H s->CX X.stack H s (R σ) e s'->X.xe e s'
structure DefX(P:Program)(w:World)(K:W.Frag)(mg:Str->Option Value)(base:Heap)(k:Nat)(x:Str)(ps:List Str)(ds:List V)(sp:Sp):Prop where
 ex:∃(f:Addr)(fd:FuncData)(dvs:List Value),bD P w K mg base (kj P w) k f fd ps sp/\mg x=some (.ref f)/\W.keepIn K (.ref f)=true/\Binds K fd ps dvs/\Vals ds dvs
noncomputable def GZ(sp:Sp)(dvs:List V)(R:St->XK)(t:TA):TE:=fun σ H Q=>t σ H fun vs H1=>sp (vs++dvs) H1 Q (R σ)
section
variable{X:Cx}
theorem bB{k:Nat}{x:Str}{ps:List Str}{ds:List V}{sp:Sp}{e:Expr}{es:List Expr}{t:TA}{p pos:Pos}{R:St->XK}(D:DefX X.prog X.w X.K X.mg X.base k x ps ds sp)(hr:dD k X.A)(hx:lu (kj X.prog X.w) X R)(hg:Gl X x)(ha:PA X (e::es) t)(hdb:(x==("__debug__":Str))=false:=by decide)(he:starEach (e::es) X.env=(false,eval e X.env)::starEach es X.env:=by rfl)(hpl:(backTo pos (starEach es X.env)).any (·.1)=false:=by rfl):
  PE X (.Call (.Name x p) (e::es) [] pos) (GZ sp ds R t):=by
 refine kh D.ex fun f fd dvs F hm hk hb hd=>?_;intro pins s σ H Q I h;refine wpAny_Call_Name_kw (mQ I hg hm ?_ hdb);refine W.callWith_K (h₀:=X.base) I.ok.mod.kin hk (dF (ha pos pins s σ H _ I h) fun us s1 ⟨vs,H1,I1,r,q⟩=>⟨I1.kIn,?_⟩) he hpl;have r2:Vals (vs++ds) (us++dvs):=r.append hd;have hl:(us++dvs).length=ps.length:=by rw[<-r2.length];exact F.len _ _ _ _ q
 refine wpAny_call (codeAny_mono (F.run X.A X.stack s1 H1 ⟨us,[]⟩ (us++dvs) (vs++ds) Q (R σ) hr I1.env0 (hb s1 us I1.kIn hl) r2 q) fun res s' hq=>?_);cases res with
 | error er=>exact hx pins σ H1 s1 er s' I1 hq
 | ok fl=>
  cases fl with
  | ret u=>exact I1.after hq
  | next=>exact False.elim hq
  | brk=>exact False.elim hq
  | cont=>exact False.elim hq
theorem jc{P:Program}{w:World}:lu (kj P w) X fun _=>E0:=fun _ _ _ _ _ _ _ h=>by refine dJ h fun _ _ _ _ _ _ _ _ _ _ _ q=>?_;exact False.elim q
theorem PS.nox {st:Stmt} {t:TS} (h:PS X.nox st t):PS X st t:=fun pins s σ H D I hw=>
 wpAny_mono (h pins s σ H D (I.wish _) hw) (fun _ _ q=>q.unwish) fun _ _ z=>False.elim z
end
section
variable{P:Program}{w:World}{K:W.Frag}{mg:Str->Option Value}{base:Heap}
theorem eV{N:List Str}{qual:Str}{scope:Scope}{f:Addr}{cd:Value}{A:Around}{outer:List Env}{s₀:Shared}{H₀:Hp}{E:XK}:
  lu (kj P w) (jx (kj P w) P w K mg base N qual scope f cd A outer s₀ H₀ E) fun _=>E:=fun pins σ H s e s' I h=>K3 pins σ H s e s' I h
theorem bf.okX {x qual:Str} {st:Stmt} {dV:Value} {f:Addr} {fd:FuncData} {N ps:List Str} {k:Nat} {sp:Sp} (F:bf K x qual st dV f fd) (S:aL N ps (aA st)) (len:∀vs H Q E,sp vs H Q E->vs.length=ps.length)
  (hbody:∀(cdv:Value)(A:Around)(outer:List Env)(s:Shared)(H:Hp)(vs:List V)(Q:VK)(E:XK),dD k (A.deeper (envOfC qual (aA st) s.heap.objs.size f cdv))->sp vs H Q E->
   ∃t,qz (jx (kj P w) P w K mg base N qual (aA st) f cdv A outer s H E) (bJ st) t/\t {nx:=fun _ H'=>Q .non H',rt:=Q} (start N vs) H):bD P w K mg base (kj P w) (k+1) f fd ps sp:=by
 refine bM F.ex fun oc od kV doc pm an cdv ct osl e9_ lk hcd=>?_;subst e9_;exact DY lk hcd S len fun A outer s H vs Q E hr hsp=>hbody cdv A outer s H vs Q E hr hsp
theorem bf.defX {x qual:Str} {st:Stmt} {f:Addr} {fd:FuncData} {ps:List Str} {k:Nat} {sp:Sp} (F:bf K x qual st .none f fd) (G:bD P w K mg base (kj P w) k f fd ps sp) (hm:mg x=some (.ref f))
  (h:∀(kV doc pm:Value)(an:Option Addr)(cdv ct:Value)(us:List Value),us.length=ps.length->bindArgs (W.fnOf x qual (iD st) (bJ st) (aA st) .none kV doc pm an cdv ct) ⟨us,[]⟩=pure (ps.zip us)):DefX P w K mg base k x ps [] sp:=by
 refine bM F.ex fun oc od kV doc pm an cdv ct osl e9_ lk hcd=>?_;subst e9_;exact⟨f,_,[],G,hm,F.kp,.all (h kV doc pm an cdv ct),.nil⟩
end
section
variable{X:Cx}{pins pn:List (Addr×Obj)}{σ:St}{H:Hp}{s:Shared}{XE:Value->Shared->Prop}
noncomputable abbrev Cx.at (X:Cx) (pn:List (Addr×Obj)) (XE:Value->Shared->Prop):Cx:={X with pn:=pn,xe:=XE}
theorem Cx.Ok.at (ok:X.Ok):(X.at pn XE).Ok:=
 ⟨ok.mod,ok.kind,ok.glob,ok.blt,ok.above,ok.inj,ok.has,ok.cab,ok.hd,ok.frames,ok.stk,ok.exf,ok.bs,ok.bsz,ok.noex,ok.exfs,ok.funs,ok.frf⟩
theorem Cx.Ok.unat (ok:(X.at pn XE).Ok):X.Ok:=
 ⟨ok.mod,ok.kind,ok.glob,ok.blt,ok.above,ok.inj,ok.has,ok.cab,ok.hd,ok.frames,ok.stk,ok.exf,ok.bs,ok.bsz,ok.noex,ok.exfs,ok.funs,ok.frf⟩
theorem Inv.at (I:Inv X pins σ H s):Inv (X.at (X.pn++pins) XE) [] σ H s:=⟨I.ok.at,I.os,I.bare,I.base,I.loc,I.cell,I.free,I.freeC,fun p hp=>I.pin p (by simpa using hp),I.hok,I.len⟩
theorem Inv.unat {pins':List (Addr×Obj)} (I:Inv (X.at (X.pn++pins) XE) pins' σ H s):Inv X pins σ H s:=⟨I.ok.unat,I.os,I.bare,I.base,I.loc,I.cell,I.free,I.freeC,fun p hp=>I.pin p (List.mem_append_left _ hp),I.hok,I.len⟩
end
structure pK(K:W.Frag)(D:Addr):Prop where
 ga:W.findIn K (.ref D) "__getattribute__"=some (some (.builtin "BaseException.__getattribute__"))
 gx:W.findIn K (.ref D) "__getattr__"=some none
 cl:W.findIn K (.ref D) "__class__"=some (some (.builtin "object.__class__"))
 mB:W.mroIn K D (.type "BaseException")=some true
 mo:W.mroIn K D (.type "object")=some true
 isc:(W.clsIn K D).isSome=true
noncomputable def ExcAt(x D:Addr)(h:Heap):Prop:=∃o vs,h.get? x=some o/\o.cls= .ref D/\o.data= .fields vs
section
variable{prog:Program}{w:World}{A:Around}{E:Value->Shared->Prop}{s:Shared}{K:W.Frag}{x D:Addr}
theorem ExcAt.ty {M:Model} {h:Heap} (e:ExcAt x D h):W.Looks M h (typeOf (.ref x)) (.ref D):=by refine dB e fun o vs h1 h2 _=>?_;exact h2▸(W.Looks.ld h1).andThen .now
theorem wH{R : Result -> Shared -> Prop}(KX : K.In s.heap)(e : ExcAt x D s.heap)(c : pK K D)(h : R (.ok (.ret (.ref D))) s):
    codeAny (model prog w) A (.call (.builtin "getset_descriptor.__get__") ⟨[.builtin "object.__class__",.ref x,.ref D],[]⟩) R s:=by
  obtain⟨hh,g,dr,t,os⟩:=s;have L0:W.Looks (model prog w) hh (typeOf (.ref x)) (.ref D):=e.ty;have L1:W.Looks (model prog w) hh (isSubtype (.ref D) (.type (".".intercalate ("object.__class__".cutAt '.').dropLast))) true:=by rw[F.owner_object_class];exact W.looks_mroIn KX c.mo
  have LI:W.Looks (model prog w) hh (isInstance (.ref x) (.type (".".intercalate ("object.__class__".cutAt '.').dropLast))) true:=L0.andThen L1;have hT5:(⟨hh,g,dr,t,os⟩:Shared).TypeIs (.builtin "object.__class__") "getset_descriptor":=F.typeOf_object_class;refine codeAny_call_builtin F.slot_gs_get.plain F.entry_gs_get (F.slot_gs_get.check _ _ _ _ _ _ _ _ hT5 (F.args_gs_get _ _ _) ?_)
  repeat(any_goals (first | assumption | (with_reducible refine LI.at ?_) | (with_reducible refine L0.at ?_) | (with_reducible refine L1.at ?_) | wp_step))
  refine⟨Code.quiet_builtin _ (by decide+kernel),codeAny_builtin F.entry_object_class ?_⟩
  repeat(any_goals (first | assumption | (with_reducible refine L0.at ?_) | wp_step))
theorem Fe{tk : Tok}{Q : Fin -> Shared -> Prop}(KX : K.In s.heap)(e : ExcAt x D s.heap)(c : pK K D)(h : Q (.done (.ret (.ref D))) s):
    wpAny (model prog w) A (Builtin.«object.__getattribute__» ⟨[.ref x,.str "__class__" tk],[]⟩) Q E s:=by
  obtain⟨hh,g,dr,t,os⟩:=s;have L0:W.Looks (model prog w) hh (typeOf (.ref x)) (.ref D):=e.ty;have L4:=W.looks_findIn (M:=model prog w) KX c.cl;have hT5:(⟨hh,g,dr,t,os⟩:Shared).TypeIs (.builtin "object.__class__") "getset_descriptor":=F.typeOf_object_class;have f5:=F.typeOf_object_class;have f6:=F.slot_gs_get.lookup;have f7:=F.slot_gs_set.lookup
  repeat(any_goals (first | assumption | (with_reducible refine L0.at ?_) | (with_reducible refine L4.at ?_) | wp_step))
  refine wH KX e c ?_;exact wpAny_pure h
theorem Dj:splitId "BaseException.__getattribute__"=some ("BaseException","__getattribute__"):=by decide+kernel
theorem Fg:builtinKind "BaseException.__getattribute__"=some .slot:=by decide+kernel
theorem Gm{M:Model}{v:Value}{Q:Unit->Shared->Prop}(KX:K.In s.heap)(e:ExcAt x D s.heap)(c:pK K D)(h:Q () s):
  wpAny M A (checkBuiltinCall "BaseException.__getattribute__" ⟨[.ref x,v],[]⟩) Q E s:=by
 have L0:W.Looks M s.heap (typeOf (.ref x)) (.ref D):=e.ty;have LI:W.Looks M s.heap (isInstance (.ref x) (.type "BaseException")) true:=L0.andThen (W.looks_mroIn KX c.mB);have hA:=F.args_bexc_ga (.ref x) v;simp only[checkBuiltinCall,Dj,Fg];refine wpAny_bind (LI.at ?_);unfold argsOk at hA;cases hsig:Manifest.signature? "BaseException.__getattribute__" with
 | none=>
  rw[hsig] at hA;simp only[Bool.not_true,Bool.false_eq_true,if_false];exact wpAny_pure h
 | some sig=>
  rw[hsig] at hA;simp only[Bool.not_true,Bool.false_eq_true,if_false];exact wpAny_of_eq hA h
theorem Gv{Q : Option Value -> Shared -> Prop}(KX : K.In s.heap)(e : ExcAt x D s.heap)(c : pK K D)(h : Q (some (.ref D)) { s with toks := s.toks + 1 }):
    wpAny (model prog w) A (getAttr? (.ref x) "__class__") Q E s:=by
  obtain⟨hh,g,dr,t,os⟩:=s;have L0:W.Looks (model prog w) hh (typeOf (.ref x)) (.ref D):=e.ty;have L1:=W.looks_findIn (M:=model prog w) KX c.ga;have L2:=W.looks_findIn (M:=model prog w) KX c.gx;have hbind:=F.excAttr_ValueError.ga.bind (.ref x);unfold getAttr? getAttrBy?
  repeat(any_goals (first | assumption | (with_reducible refine L0.at ?_) | (with_reducible refine L1.at ?_) | (with_reducible refine L2.at ?_) | wp_step))
  refine codeAny_call_builtin F.excAttr_ValueError.ga.plain F.entry_bexc_ga (Gm (s:=⟨hh,g,dr,t+1,os⟩) KX e c (Fe (s:=⟨hh,g,dr,t+1,os⟩) KX e c ?_))
  repeat(any_goals (first | assumption | wp_step))
theorem Bl(c:pK K D):W.KitX K (.ref x) (.ref D) (ExcAt x D) where
 ty:=fun _ _ _ e=>e.ty
 it:=fun M h KX _=>by
  have hc:=c.isc;unfold W.clsIn at hc
  split at hc
  ·rename_i c' d' cd' sl' ho
   intro A' Q' E' s' k q;unfold isType loadHead;exact wpAny_bind (wpAny_loadPart (k _ _ (KX _ _ ho)) (wpAny_pure q))
  ·cases hc
 ne:=fun h tp dd its n sl KX htp=>by
  have hc:=c.isc;refine Bool.eq_false_iff.mpr fun q=>?_;have e:D=tp:=Value.ref.inj (beq_iff_eq.mp q);subst e;unfold W.clsIn at hc
  split at hc
  ·rename_i c' d' cd' sl' ho
   have z:=(KX _ _ ho).symm.trans htp;cases z
  ·cases hc
 ca:=fun KX e k=>Gv KX e c k
end
inductive QB(K:W.Frag)(H:Hp):V->Value->Prop where
 | of {x:V} {t:Value} (h:qH K H x t):QB K H x t
 | exc {a C:Addr} (e:H a=some (jf a C)) (c:pK K C):QB K H (.ref a) (.ref C)
 | dict {a:Addr} (e:H a=some (my a)):QB K H (.ref a) (.type "dict")
noncomputable def Kh(K:W.Frag)(H:Hp)(x:V)(c:Value)(b:Bool):Prop:=∃t,QB K H x t/\W.kitOne K t c=some b
noncomputable def Gw(K:W.Frag):List V->Hp->VK->Prop:=fun xs H Q=>match xs with
 | [x,.ty n]=>∃b,Kh K H x (.type n) b/\Q (.bl b) H
 | [x,.ref C]=>∃b,Kh K H x (.ref C) b/\Q (.bl b) H
 | _=>False
section
variable{X:Cx}
theorem Hb{A:Around}{E:Value->Shared->Prop}{Q:Value->Shared->Prop}{pins:List (Addr×Obj)}{σ:St}{H:Hp}{s:Shared}{x:V}{u c:Value}{b:Bool}(I:Inv X pins σ H s)(rx:RelV x u)(h:Kh X.K H x c b)(k:∀tk,Q (.bool b) {s with toks:=tk}):
  wpAny (model X.prog X.w) A (call (.builtin "isinstance") [u,c]) Q E s:=by
 refine aO h fun t ty e=>?_;cases ty with
 | of ty=>exact Ge I rx ty e k
 | @exc a C ea cc=>
  cases(show u=Value.ref a from rx);refine wj ((show dO X.prog X.w H s.heap a (jf a C) from I.hok a _ ea)) fun p0_ _ _=>?_;obtain⟨ox,vx,p1,p2,p3,_⟩:=p0_;have p:∃o vs,s.heap.get? a=some o/\o.cls=Value.ref C/\o.data=Data.fields vs:=⟨ox,vx,p1,p2,p3⟩;exact W.kia_one (Bl cc) I.kIn p e (fun z=>nomatch z) k
 | @dict a ea=>
  cases(show u=Value.ref a from rx);refine wj ((show dO X.prog X.w H s.heap a (.dK []) from I.hok a _ ea)) fun _ _ p2_=>?_;obtain⟨vs,_,p⟩:=p2_;refine oR p fun o es ep h1 h2 _=>?_;exact W.kia_one W.kitx_dict I.kIn ⟨o,h1,h2.1⟩ e (fun z=>nomatch z) k
theorem zR:iR X (.builtin "isinstance") (Gw X.K):=by
 intro pins s σ H xs us Q I rs h;unfold Gw at h
 split at h
 ·refine dB (vals2 rs) fun u w' e2_ r1 r2=>?_;subst e2_;cases r2;refine aO h fun b hb q=>?_;exact Hb I r1 hb fun tk=>⟨.bl b,H,I.tok tk,Z,q⟩
 ·refine dB (vals2 rs) fun u w' e2_ r1 r2=>?_;subst e2_;cases r2;refine aO h fun b hb q=>?_;exact Hb I r1 hb fun tk=>⟨.bl b,H,I.tok tk,Z,q⟩
 ·exact h.elim
theorem Kc{e:Expr}{te:TE}{T:Str}{n:String}{p p2 pos:Pos}(he:PE X e te)(h1:Gl X "isinstance")(h2:X.mg "isinstance"=none)(h3:Gl X T)(h4:X.mg T=none)(h5:bootBuiltins T=some (.type n))(h6:T≠"__name__":=by decide)(h7:(T==("__debug__":Str))=false:=by decide)(s1:starEach [e,.Name T p2] X.env=(false,eval e X.env)::starEach [.Name T p2] X.env:=by rfl)(s2:starEach [.Name T p2] X.env=(false,eval (.Name T p2) X.env)::starEach [] X.env:=by rfl)(hpl:(backTo pos (starEach [.Name T p2] X.env)).any (·.1)=false:=by rfl):
  PE X (.Call (.Name "isinstance" p) [e,.Name T p2] [] pos) (Ny (Gw X.K) (iY te (iY (tC (.ty n)) nU))):=
 aR zR h1 h2 PyProof.Rows.boot_isinstance (aa he (aa (Kw h3 h4 h5 Z h6 h7) aj s2) s1) (by decide) (by decide) s1 hpl
theorem Kz{e:Expr}{te:TE}{T:Str}{C:Addr}{p p2 pos:Pos}(he:PE X e te)(h1:Gl X "isinstance")(h2:X.mg "isinstance"=none)(h3:Gl X T)(h4:X.mg T=some (.ref C))(h7:(T==("__debug__":Str))=false:=by decide)(s1:starEach [e,.Name T p2] X.env=(false,eval e X.env)::starEach [.Name T p2] X.env:=by rfl)(s2:starEach [.Name T p2] X.env=(false,eval (.Name T p2) X.env)::starEach [] X.env:=by rfl)(hpl:(backTo pos (starEach [.Name T p2] X.env)).any (·.1)=false:=by rfl):
  PE X (.Call (.Name "isinstance" p) [e,.Name T p2] [] pos) (Ny (Gw X.K) (iY te (iY (tC (.ref C)) nU))):=
 aR zR h1 h2 PyProof.Rows.boot_isinstance (aa he (aa (bY h3 h4 Z h7) aj s2) s1) (by decide) (by decide) s1 hpl
end
theorem cz{H H':Hp}{D:Addr}{o:HO}(s:aC H H')(h:H D=none):aC H (upd H' D o):=fun b u e=>by rw[aB (aF e h)];exact s b u e
theorem au{H:Hp}{D:Addr}{o:HO}(h:H D=none):aC H (upd H D o):=cz (aC.refl H) h
inductive Kd(K:W.Frag)(H:Hp):V->Prop where
 | non:Kd K H .non
 | bl (b:Bool):Kd K H (.bl b)
 | int (i:Int):Kd K H (.int i)
 | str (x:Str):Kd K H (.str x)
 | lst {a:Addr} {xs:List V} (e:H a=some (.lst xs)):Kd K H (.ref a)
 | tup {a:Addr} {xs:List V} (e:H a=some (.tup xs)):Kd K H (.ref a)
 | dict {a:Addr} (e:H a=some (my a)):Kd K H (.ref a)
theorem Kd.mono {K:W.Frag} {H H':Hp} {x:V} (k:Kd K H x) (s:aC H H'):Kd K H' x:=by
 cases k with
 | non=>exact .non
 | bl b=>exact .bl b
 | int i=>exact .int i
 | str y=>exact .str y
 | lst e=>exact .lst (s _ _ e)
 | tup e=>exact .tup (s _ _ e)
 | dict e=>exact .dict (s _ _ e)
noncomputable def isI:V->Bool
 | .int _=>true
 | .bl _=>true
 | _=>false
noncomputable def SN:V->Bool
 | .bl _=>true
 | _=>false
noncomputable def JW(H:Hp):V->Bool
 | .ref a=>match H a with
  | some (.lst _)=>true
  | _=>false
 | _=>false
section
variable{K:W.Frag}
theorem QX:W.kitOne K (.type "int") (.type "int")=some true:=by kernel_rfl
theorem Q0:W.kitOne K (.type "int") (.type "bool")=some false:=by kernel_rfl
theorem Rg:W.kitOne K (.type "int") (.type "list")=some false:=by kernel_rfl
theorem RP:W.kitOne K (.type "bool") (.type "int")=some true:=by kernel_rfl
theorem QT:W.kitOne K (.type "bool") (.type "bool")=some true:=by kernel_rfl
theorem Rx:W.kitOne K (.type "bool") (.type "list")=some false:=by kernel_rfl
theorem Rc:W.kitOne K (.type "NoneType") (.type "int")=some false:=by kernel_rfl
theorem Rv:W.kitOne K (.type "NoneType") (.type "bool")=some false:=by kernel_rfl
theorem Q4:W.kitOne K (.type "NoneType") (.type "list")=some false:=by kernel_rfl
theorem RZ:W.kitOne K (.type "str") (.type "int")=some false:=by kernel_rfl
theorem RM:W.kitOne K (.type "str") (.type "bool")=some false:=by kernel_rfl
theorem QQ:W.kitOne K (.type "str") (.type "list")=some false:=by kernel_rfl
theorem Rp:W.kitOne K (.type "list") (.type "int")=some false:=by kernel_rfl
theorem Rn:W.kitOne K (.type "list") (.type "bool")=some false:=by kernel_rfl
theorem O5:W.kitOne K (.type "list") (.type "list")=some true:=by kernel_rfl
theorem Rf:W.kitOne K (.type "tuple") (.type "int")=some false:=by kernel_rfl
theorem Ru:W.kitOne K (.type "tuple") (.type "bool")=some false:=by kernel_rfl
theorem RV:W.kitOne K (.type "tuple") (.type "list")=some false:=by kernel_rfl
theorem RX:W.kitOne K (.type "dict") (.type "int")=some false:=by kernel_rfl
theorem Rh:W.kitOne K (.type "dict") (.type "bool")=some false:=by kernel_rfl
theorem QK:W.kitOne K (.type "dict") (.type "list")=some false:=by kernel_rfl
variable{H:Hp}{x:V}
theorem Kd.isInt (k:Kd K H x):Kh K H x (.type "int") (isI x):=by
 cases k with
 | non=>exact⟨_,.of .non,Rc⟩
 | bl b=>exact⟨_,.of (.bl b),RP⟩
 | int i=>exact⟨_,.of (.int i),QX⟩
 | str y=>exact⟨_,.of (.str y),RZ⟩
 | lst e=>exact⟨_,.of (.lst e),Rp⟩
 | tup e=>exact⟨_,.of (.tup e),Rf⟩
 | dict e=>exact⟨_,.dict e,RX⟩
theorem Kd.isBool (k:Kd K H x):Kh K H x (.type "bool") (SN x):=by
 cases k with
 | non=>exact⟨_,.of .non,Rv⟩
 | bl b=>exact⟨_,.of (.bl b),QT⟩
 | int i=>exact⟨_,.of (.int i),Q0⟩
 | str y=>exact⟨_,.of (.str y),RM⟩
 | lst e=>exact⟨_,.of (.lst e),Rn⟩
 | tup e=>exact⟨_,.of (.tup e),Ru⟩
 | dict e=>exact⟨_,.dict e,Rh⟩
theorem Kd.isList (k:Kd K H x):Kh K H x (.type "list") (JW H x):=by
 cases k with
 | non=>exact⟨_,.of .non,Q4⟩
 | bl b=>exact⟨_,.of (.bl b),Rx⟩
 | int i=>exact⟨_,.of (.int i),Rg⟩
 | str y=>exact⟨_,.of (.str y),QQ⟩
 | lst e=>refine⟨_,.of (.lst e),?_⟩;simp only[JW,e];exact O5
 | tup e=>refine⟨_,.of (.tup e),?_⟩;simp only[JW,e];exact RV
 | dict e=>refine⟨_,.dict e,?_⟩;simp only[JW,e,my];exact QK
theorem je{a:Addr}{xs:List V}(e:H a=some (.lst xs)):Kh K H (.ref a) (.type "list") true:=⟨_,.of (.lst e),O5⟩
end
noncomputable def Src(J:It)(L:List V)(H:Hp):Prop:=∀H',aC H H'->(∀i x,L[i]? =some x->J.go i H'/\∀y H2,J.yld i H' y H2->y=x/\H2=H')/\J.stop L.length H'
theorem src_list{K:W.Frag}{a:Addr}{xs:List V}{H:Hp}(h:aP K H a xs):Src (Lh K a) xs H:=fun H' sm=>
 ⟨fun i x e=>⟨⟨xs,x,sm.seq h,e⟩,fun y H2 ⟨q1,q2⟩=>⟨by have:=q2 xs (sm.seq h);rw[e] at this;exact(Option.some.inj this).symm,q1⟩⟩,⟨xs,sm.seq h,Nat.le_refl _⟩⟩
theorem src_range{lo:Int}{n:Nat}{H:Hp}:Src (Mh lo n) ((List.range n).map fun(i:Nat)=>V.int (lo+i)) H:=fun H' sm=>by
 refine⟨fun i x e=>?_,?_⟩
 ·have hi:i<n:=by have:=(List.getElem?_eq_some_iff.mp e).1;simpa using this
  refine⟨hi,fun y H2 ⟨q1,q2⟩=>⟨?_,q1⟩⟩;rw[List.getElem?_map,List.getElem?_range hi] at e;rw[q2];exact Option.some.inj e
 ·show n<=_;simp
theorem bR{J:It}{L:List V}{k:Nat}{tt:TT}{te:TE}{D:Addr}{σ0:St}{H:Hp}{Fn:Hp->Prop}(f:V->V)(p:V->Bool)(S:Src J L H)(hn:L.length<=sizeLine)(hD:H D=none)(ht:∀x∈L,∀(H':Hp)(Qb:Bool->Hp->Prop),aC H H'->(∀H'',aC H' H''->Qb (p x) H'')->tt (σ0.set k (some x)) H' Qb)(he:∀x∈L,p x=true->∀(H':Hp)(Q:VK),aC H H'->(∀H'',aC H' H''->Q (f x) H'')->te (σ0.set k (some x)) H' Q)(hd:∀H',aC H H'->H' D=some (.lst ((L.filter p).map f))->Fn H'):
  ∃W:Nat->Nat->St->Hp->Prop,(∃m,W 0 m σ0 (upd H D (.lst [])))/\∀i m σ' H',W i m σ' H'->
   (J.stop i H'/\Fn H')\/(J.go i H'/\∃N:St->Hp->Prop,(∀σ2 H2,N σ2 H2->∃m',m'<m/\W (i+1) m' σ2 H2)/\∀x H2,J.yld i H' x H2->fK k x σ' H2 fun σ3 H3=>tt σ3 H3 fun b H4=>
    if b=true then te σ3 H4 fun v H5=>∃xs,H5 D=some (.lst xs)/\xs.length<sizeLine/\N σ3 (upd H5 D (.lst (xs++[v]))) else N σ3 H4):=by
 refine⟨fun i m σ' H'=>m=L.length - i/\i<=L.length/\(∀y,σ'.set k y=σ0.set k y)/\aC H H'/\H' D=some (.lst (((L.take i).filter p).map f)),⟨L.length,Z,Nat.zero_le _,fun _=>Z,au hD,by rw[ak];rfl⟩,?_⟩;rintro i m σ' H' ⟨rfl,hi,hσ,sm,hH⟩;by_cases hlt:i<L.length
 ·have hx:L[i]? =some L[i]:=by simp[hlt]
  obtain⟨go,yl⟩:=(S H' sm).1 i _ hx;refine .inr ⟨go,fun σ2 H2=>(∀y,σ2.set k y=σ0.set k y)/\aC H H2/\H2 D=some (.lst (((L.take (i+1)).filter p).map f)),?_,?_⟩
  ·rintro σ2 H2 ⟨q1,q2,q3⟩;exact⟨L.length - (i+1),by omega,Z,hlt,q1,q2,q3⟩
  ·intro x H2 y;obtain⟨rfl,rfl⟩:=yl x H2 y;show tt (σ'.set k (some L[i])) H2 _;rw[hσ];have hm:L[i]∈L:=List.getElem_mem hlt;have tk:L.take (i+1)=L.take i++[L[i]]:=by rw[List.take_add_one,hx];rfl
   refine ht _ hm H2 _ sm fun H4 s4=>?_;cases hp:p L[i] with
   | true=>
    refine Fj (he _ hm hp H4 _ (sm.trans s4) fun H5 s5=>⟨_,s5 D _ (s4 D _ hH),?_,fun y=>by rw[List.set_set],cz (sm.trans (s4.trans s5)) hD,?_⟩)
    ·have h1:(((L.take i).filter p).map f).length<=(L.take i).length:=by rw[List.length_map];exact List.length_filter_le _ _
     rw[List.length_take] at h1;omega
    ·rw[ak,tk,List.filter_append,List.map_append];simp[hp]
   | false=>
    refine FZ ⟨fun y=>by rw[List.set_set],sm.trans s4,?_⟩;rw[tk,List.filter_append,List.filter_cons_of_neg (by simp[hp])];simpa using s4 D _ hH
 ·have e:i=L.length:=by omega
  subst e;exact .inl ⟨(S H' sm).2,hd H' sm (by rw[hH,List.take_length])⟩
structure bj(H:Hp)(a:Addr)(ps:List Addr)(R:List (List V)):Prop where
 top:H a=some (.lst (ps.map V.ref))
 row:Paired (fun p r=>H p=some (.lst r)) ps R
 nd:ps.Nodup
 out:a∉ps
noncomputable def oN(H:Hp)(ps:List Addr):Prop:=∀q∈ps,H q=none
theorem Paired.mapI {α β:Type} {F G:α->β->Prop}:∀{l₁:List α}{l₂:List β},Paired F l₁ l₂->(∀a b,a∈l₁->F a b->G a b)->Paired G l₁ l₂
 | _,_,.nil,_=> .nil
 | _,_,.cons r t,f=> .cons (f _ _ List.mem_cons_self r) (Paired.mapI t fun a b h=>f a b (List.mem_cons_of_mem _ h))
theorem Paired.app {α β:Type} {F:α->β->Prop}:∀{l₁ m₁:List α}{l₂ m₂:List β},Paired F l₁ l₂->Paired F m₁ m₂->Paired F (l₁++m₁) (l₂++m₂)
 | _,_,_,_,.nil,q=>q
 | _,_,_,_,.cons r t,q=> .cons r (Paired.app t q)
theorem Paired.getL {α β:Type} {F:α->β->Prop}:∀{l₁:List α}{l₂:List β}{i:Nat}{a:α},Paired F l₁ l₂->l₁[i]? =some a->∃b,l₂[i]? =some b/\F a b
 | _,_,_,_,.nil,e=>by simp at e
 | _,_,0,_,.cons r t,e=>by simp at e;subst e;exact⟨_,Z,r⟩
 | _,_,i+1,a,.cons r t,e=>by refine aO (Paired.getL (i:=i) (a:=a) t (by simpa using e)) fun b h1 h2=>?_;exact⟨b,by simpa using h1,h2⟩
section
variable{H H':Hp}{a:Addr}{ps:List Addr}{R:List (List V)}
theorem bj.mono (p:bj H a ps R) (s:aC H H'):bj H' a ps R:=⟨s _ _ p.top,Paired.mapI p.row fun _ _ _ e=>s _ _ e,p.nd,p.out⟩
theorem bj.len (p:bj H a ps R):ps.length=R.length:=Paired.length p.row
theorem bj.at {i:Nat} {q:Addr} (p:bj H a ps R) (h:ps[i]? =some q):∃r,R[i]? =some r/\H q=some (.lst r):=Paired.getL p.row h
theorem bj.mem (p:bj H a ps R) {q:Addr} (hq:q∈ps):∃r,r∈R/\H q=some (.lst r):=by obtain⟨i,hi⟩:=List.mem_iff_getElem?.mp hq;refine aO (p.at hi) fun r hr e=>?_;exact⟨r,List.mem_of_getElem? hr,e⟩
end
theorem jd{J:It}{L:List V}{k:Nat}{te:TE}{D:Addr}{σ0:St}{H:Hp}{Fn:Hp->Prop}(g:V->List V)(S:Src J L H)(hn:L.length<=sizeLine)(hD:H D=none)(he:∀x∈L,∀(H':Hp)(Q:VK),aC H H'->(∀q H'',aC H' H''->H' q=none->H'' q=some (.lst (g x))->Q (.ref q) H'')->te (σ0.set k (some x)) H' Q)(hd:∀ps H',aC H H'->oN H ps->bj H' D ps (L.map g)->Fn H'):
  ∃W:Nat->Nat->St->Hp->Prop,(∃m,W 0 m σ0 (upd H D (.lst [])))/\∀i m σ' H',W i m σ' H'->
   (J.stop i H'/\Fn H')\/(J.go i H'/\∃N:St->Hp->Prop,(∀σ2 H2,N σ2 H2->∃m',m'<m/\W (i+1) m' σ2 H2)/\∀x H2,J.yld i H' x H2->fK k x σ' H2 fun σ3 H3=>zW σ3 H3 fun b H4=>
    if b=true then te σ3 H4 fun v H5=>∃xs,H5 D=some (.lst xs)/\xs.length<sizeLine/\N σ3 (upd H5 D (.lst (xs++[v]))) else N σ3 H4):=by
 refine⟨fun i m σ' H'=>m=L.length - i/\i<=L.length/\(∀y,σ'.set k y=σ0.set k y)/\aC H H'/\∃ps,oN H ps/\bj H' D ps ((L.take i).map g),⟨L.length,Z,Nat.zero_le _,fun _=>Z,au hD,[],(fun q h=>nomatch h),⟨by rw[ak];rfl,.nil,List.nodup_nil,by simp⟩⟩,?_⟩;rintro i m σ' H' ⟨rfl,hi,hσ,sm,ps,fr,pic⟩;by_cases hlt:i<L.length
 ·have hx:L[i]? =some L[i]:=by simp[hlt]
  obtain⟨go,yl⟩:=(S H' sm).1 i _ hx;refine .inr ⟨go,fun σ2 H2=>(∀y,σ2.set k y=σ0.set k y)/\aC H H2/\∃ps,oN H ps/\bj H2 D ps ((L.take (i+1)).map g),?_,?_⟩
  ·rintro σ2 H2 ⟨q1,q2,q3⟩;exact⟨L.length - (i+1),by omega,Z,hlt,q1,q2,q3⟩
  ·intro x H2 y;obtain⟨rfl,rfl⟩:=yl x H2 y;simp only[fK,zW,if_true];rw[hσ];have hm:L[i]∈L:=List.getElem_mem hlt;have tk:L.take (i+1)=L.take i++[L[i]]:=by rw[List.take_add_one,hx];rfl
   have hl:ps.length=i:=by have:=pic.len;rw[List.length_map,List.length_take] at this;omega
   refine he _ hm H2 _ sm fun q H5 s5 hq hq5=>⟨_,s5 D _ pic.top,by rw[List.length_map,hl];omega,fun y=>by rw[List.set_set],cz (sm.trans s5) hD,ps++[q],?_,?_⟩
   ·intro c hc;rcases List.mem_append.mp hc with hc | hc
    ·exact fr c hc
    ·have e:c=q:=by simpa using hc
     subst e;exact sm.free hq
   ·have nq:q∉ps:=fun z=>by refine aO (pic.mem z) fun r _ e=>?_;rw[hq] at e;cases e
    have nD:D≠q:=aF pic.top hq;refine⟨by rw[ak,List.map_append];rfl,?_,?_,?_⟩
    ·rw[tk,List.map_append];refine Paired.app (Paired.mapI pic.row fun c r hc e=>?_) (.cons ?_ .nil)
     ·have ne:c≠D:=fun z=>pic.out (by rw[<-z];exact hc);rw[aB ne];exact s5 _ _ e
     ·rw[aB (Ne.symm nD)];exact hq5
    ·rw[List.nodup_append]
     exact⟨pic.nd,by simp,fun c hc d hd z=>by
      have e:d=q:=by simpa using hd
      subst e;subst z;exact nq hc⟩
    ·intro z;rcases List.mem_append.mp z with z | z
     ·exact pic.out z
     ·exact nD (by simpa using z)
 ·have e:i=L.length:=by omega
  subst e;exact .inl ⟨(S H' sm).2,hd ps H' sm fr (by rw[List.take_length] at pic;exact pic)⟩
section
variable{X:Cx}(K:W.Frag)
theorem lJ(h:X.K=K):Qa X (O9 K):=by subst h;exact J0
theorem Hg(h:X.K=K):QW X (Ql K):=by subst h;exact Lb
theorem nH(h:X.K=K):iR X (.builtin "len") (fun xs H Q=>∃p ys,xs=[.ref p]/\(aP K H p ys\/d7 K H p ys)/\Q (.int ys.length) H):=by subst h;exact yr
theorem sY(h:X.K=K):iR X (.type "list") (fun xs H Q=>∃p ys,xs=[.ref p]/\(aP K H p ys\/d7 K H p ys)/\∀l,H l=none->Q (.ref l) (upd H l (.lst ys))):=by subst h;exact yM
theorem zc(h:X.K=K)(hc:X.calm=true):iR X (.builtin "all") (PX K):=by subst h;exact Hv hc
theorem Jc(h:X.K=K)(hu:X.A.units+64<cLine):tE X (compareOp .Eq) (Jv K false):=by subst h;exact NQ hu
theorem sS(h:X.K=K)(hu:X.A.units+64<cLine):tE X (compareOp .NotEq) (Jv K true):=by subst h;exact Nj hu
theorem oY{tg l:Expr}{tl:TE}(h:X.K=K)(hl:PE X l tl):PI X tg l (Lq K tl):=by subst h;exact Ku hl
theorem sO{e:Expr}{te:TE}{T:Str}{n:String}{p p2 pos:Pos}(h:X.K=K)(he:PE X e te)(h1:Gl X "isinstance")(h2:X.mg "isinstance"=none)(h3:Gl X T)(h4:X.mg T=none)(h5:bootBuiltins T=some (.type n))(h6:T≠"__name__":=by decide)(h7:(T==("__debug__":Str))=false:=by decide)(s1:starEach [e,.Name T p2] X.env=(false,eval e X.env)::starEach [.Name T p2] X.env:=by rfl)(s2:starEach [.Name T p2] X.env=(false,eval (.Name T p2) X.env)::starEach [] X.env:=by rfl)(hpl:(backTo pos (starEach [.Name T p2] X.env)).any (·.1)=false:=by rfl):
  PE X (.Call (.Name "isinstance" p) [e,.Name T p2] [] pos) (Ny (Gw K) (iY te (iY (tC (.ty n)) nU))):=by
 subst h;exact Kc he h1 h2 h3 h4 h5 h6 h7 s1 s2 hpl
theorem pP{e:Expr}{te:TE}{T:Str}{C:Addr}{p p2 pos:Pos}(h:X.K=K)(he:PE X e te)(h1:Gl X "isinstance")(h2:X.mg "isinstance"=none)(h3:Gl X T)(h4:X.mg T=some (.ref C))(h7:(T==("__debug__":Str))=false:=by decide)(s1:starEach [e,.Name T p2] X.env=(false,eval e X.env)::starEach [.Name T p2] X.env:=by rfl)(s2:starEach [.Name T p2] X.env=(false,eval (.Name T p2) X.env)::starEach [] X.env:=by rfl)(hpl:(backTo pos (starEach [.Name T p2] X.env)).any (·.1)=false:=by rfl):
  PE X (.Call (.Name "isinstance" p) [e,.Name T p2] [] pos) (Ny (Gw K) (iY te (iY (tC (.ref C)) nU))):=by
 subst h;exact Kz he h1 h2 h3 h4 h7 s1 s2 hpl
end
open C5
section
variable{X:Cx}{sc:Scope}{N:List Str}{src:List (Option Nat)}
structure Ls(Cp:Cx->Prop)(P:Program)(w:World)(K:W.Frag)(tg:Expr)(J:It)(fp:List Addr)(it:Addr)(tn:Nat->Heap->Prop):Prop where
 mem:it∈fp
 obj:∀i h,tn i h->∀b∈fp,∃o,h.get? b=some o/\∀v,o.data≠ .cell v
 keep:∀i h h',tn i h->(∀b∈fp,∀o,h.get? b=some o->h'.get? b=some o)->tn i h'
 item:∀(X:Cx),X.prog=P->X.w=w->X.K=K->Cp X->∀(i:Nat)(pins:List (Addr×Obj))(s:Shared)(σ:St)(H:Hp)(E:Value->Shared->Prop),Inv X pins σ H s->(∀b∈fp,gF X pins H b)->tn i s.heap->J.go i H->
  wpAny (model P w) X.A (pyNext (.ref it)) (fun r s1=>∃u,r=some u/\wpAny (model P w) X.A (letOwnedTupleGo tg (.ref it) u) (fun _ s2=>∃x H',Inv X pins σ H' s2/\RelV x u/\J.yld i H x H'/\tn (i+1) s2.heap/\∀b∈fp,H' b=none) E s1) E s
 done:∀(X:Cx),X.prog=P->X.w=w->X.K=K->Cp X->∀(i:Nat)(pins:List (Addr×Obj))(s:Shared)(σ:St)(H:Hp)(E:Value->Shared->Prop),Inv X pins σ H s->(∀b∈fp,gF X pins H b)->tn i s.heap->J.stop i H->
  wpAny (model P w) X.A (pyNext (.ref it)) (fun r s1=>r=none/\Inv X pins σ H s1) E s
 self:∀(A:Around)(i:Nat)(s:Shared)(Q:Value->Shared->Prop)(E:Value->Shared->Prop),tn i s.heap->Q (.ref it) s->wpAny (model P w) A (pyIter (.ref it)) Q E s
noncomputable def PIG(Cp:Cx->Prop)(X:Cx)(tg iter:Expr)(wi:TI):Prop:=
 ∀(pins:List (Addr×Obj))(s:Shared)(σ:St)(H:Hp)(R:It->Hp->Prop),Inv X pins σ H s->wi σ H R->
  wpAny (model X.prog X.w) X.A (eval iter X.env) (fun v s1=>wpAny (model X.prog X.w) X.A (pyIter v) (fun itv s2=>∃(it:Addr)(fp:List Addr)(tn:Nat->Heap->Prop)(J:It)(H':Hp),itv= .ref it/\Inv X pins σ H' s2/\Ls Cp X.prog X.w X.K tg J fp it tn/\tn 0 s2.heap/\(∀b∈fp,gF X pins H' b)/\R J H') X.xe s1) X.xe s
theorem PI.g {X:Cx} {tg iter:Expr} {wi:TI} (h:PI X tg iter wi):PIG (fun X=>X.calm=true) X tg iter wi:=fun pins s σ H R I hw=>
 dF (h pins s σ H R I hw) fun _ _ h1=>dF h1 fun _ _ ⟨it,fp,tn,J,H',e,I2,T,st,f,r⟩=>⟨it,fp,tn,J,H',e,I2,⟨T.mem,T.obj,T.keep,T.item,T.done,T.self⟩,st,f,r⟩
theorem zM(Cp:Cx->Prop){x:Str}{ix:Nat}{p1 spos:Pos}{elt tgt iter:Expr}{ifs:List Expr}{wi:TI}{g:TG}{tt:TT}{te:TE}{pos:Pos}(hN:X.N.Nodup)(hix:X.N[ix]? =some x)(hxl:X.env.scope.names.lookup x=some .local)(hc:∀(s:Shared)(H:Hp)(C:Addr)(fp:List Addr),Cp (rH X sc N fp C s H))(B:lz X.env.scope sc X.N N src)(hi:PIG Cp X tgt iter wi)(hg:∀(s:Shared)(H:Hp)(C:Addr)(fp:List Addr),PG (rH X sc N fp C s H) tgt g)(ht:∀(s:Shared)(H:Hp)(C:Addr)(fp:List Addr),Qh (rH X sc N fp C s H) ifs tt)(he:∀(s:Shared)(H:Hp)(C:Addr)(fp:List Addr),PE (rH X sc N fp C s H) elt te)(hs:∀x,foldedSetIterable iter X.env x=pure x:=by intro _;rfl)(hsw:swapsWith (.ListComp elt [⟨tgt,iter,ifs,0⟩] sc pos) (some (.Name x p1)) spos.line X.env=pure true:=by rfl):
  PS X (.Assign [.Name x p1] (.ListComp elt [⟨tgt,iter,ifs,0⟩] sc pos) spos) (Fz (JK src wi g tt te) (fK ix)):=by
 intro pins s σ H D I h;rw[exec_Assign_Name_used _ _ _ _ hsw];refine wpAny_bind (wpAny_standAt (wpAny_bind ?_));show wpAny _ X.A (do let _ <-comprehension (.ListComp elt [⟨tgt,iter,ifs,0⟩] sc pos) sc X.env _ (newList []) false (eval iter X.env) (some (assign (.Name x p1) X.env))) _ _ s;have has:=B.has Z I.ok
 refine wpAny_bind (wpAny_mono (wpAny_comprehension_free (use:=some (assign (.Name x p1) X.env)) (Q:=fun _ s'=>SP X pins D .next s') Z hs (Ej has) B.kind (fun y hy hk=>by have:=B.look (x:=y.1) (k:=y.2) hy;rw[hk] at this;exact this)
  (dF (hi pins s σ H _ I h) fun v s1 h1=>dF h1 fun itv s2 h2=>?_)) (fun _ s' hq=>wpAny_pure (wpAny_pure hq)) fun _ _ z=>z)
 refine zb h2 fun it fp p2_=>?_;obtain⟨tn,J,H2,e,I2,T,st2,f2,q⟩:=p2_;subst e;refine wpAny_newObj_type (newBlock ?_);refine aO (q s2.heap.objs.size (I2.hok.fresh (Nat.le_refl _))) fun W p1_ turn=>?_;obtain⟨m0,w0⟩:=p1_
 have hlt:∀b∈fp,b<s2.heap.objs.size:=fun b hb=>by refine aO (T.obj 0 _ st2 b hb) fun o ho _=>?_;exact Heap.lt_size ho
 have szL:(s2.heap.push {cls:= .type "list",dict:=none,data:= .seq ([]:List Value).toArray}:Heap).objs.size=s2.heap.objs.size+1:=Heap.size_push ..;generalize hh1:pushCells ((s2.heap.push {cls:= .type "list",dict:=none,data:= .seq ([]:List Value).toArray}:Heap).push {cls:= .type "dict",data:= .dict #[]}) sc.names=hB;have IB:=I2.block (C:=(s2.heap.push {cls:= .type "list",dict:=none,data:= .seq ([]:List Value).toArray}:Heap).objs.size) (t:=s2.toks) B f2 hlt szL hh1.symm;generalize (s2.heap.push {cls:= .type "list",dict:=none,data:= .seq ([]:List Value).toArray}:Heap).objs.size=C at IB szL⊢
 have keepB:∀b o,s2.heap.get? b=some o->hB.get? b=some o:=fun b o e=>by rw[<-hh1];exact pushCells_keeps _ _ b o (Heap.get?_push_of_some _ (Heap.get?_push_of_some _ e))
 have stB:tn 0 hB:=T.keep 0 _ _ st2 fun b _ o e=>keepB b o e
 have frB:∀b∈fp,upd H2 s2.heap.objs.size (.lst []) b=none:=fun b hb=>by rw[aB (Nat.ne_of_lt (hlt b hb))];exact(f2 b hb).1
 have stat:∀{H':Hp},(∀b∈fp,H' b=none)->∀b∈fp,gF (rH X sc N fp C s2 H2) [] H' b:=fun{H'} hn b hb=>by obtain⟨z1,z2⟩:=IB.ok.exf b hb;exact⟨hn b hb,z1,IB.ok.exfs b hb,.inl hb,z2,fun p hp=>absurd (show p∈([]:List (Addr×Obj)) from hp) (by simp)⟩
 show codeAny (model X.prog X.w) X.A (.compStart (.ListComp elt [⟨tgt,iter,ifs,0⟩] sc pos) 0 (.ref it) (.ref s2.heap.objs.size) (Ao sc (iW sc X.env) C X.env)) (compPost (model X.prog X.w) X.A X.xe (some (assign (.Name x p1) X.env)) (fun _ s'=>SP X pins D .next s') (.ref s2.heap.objs.size) C) {s2 with heap:=hB}
 have loop:codeAny (model X.prog X.w) X.A (.compLoop (.ListComp elt [⟨tgt,iter,ifs,0⟩] sc pos) 0 (.ref it) (.ref s2.heap.objs.size) (Ao sc (iW sc X.env) C X.env))
   (compPost (model X.prog X.w) X.A X.xe (some (assign (.Name x p1) X.env)) (fun _ s'=>SP X pins D .next s') (.ref s2.heap.objs.size) C) {s2 with heap:=hB}:=by
  refine tL (fun n s'=>∃i σ' H',Inv (rH X sc N fp C s2 H2) [] σ' H' s'/\tn i s'.heap/\(∀b∈fp,H' b=none)/\W i n σ' H') ?_ m0 ⟨0,_,_,IB,stB,frB,w0⟩;rintro n s3 ⟨i,σ3,H3,I3,st3,fr3,w3⟩;rcases turn i n σ3 H3 w3 with⟨stop,qn⟩ | ⟨go,N',hN,step⟩
  ·refine dF (T.done (rH X sc N fp C s2 H2) Z Z Z (hc _ _ _ _) i [] s3 σ3 H3 _ I3 (stat fr3) st3 stop) fun r s4 ⟨hr,I4⟩=>?_;subst hr;refine aO I4.loc fun m hn _=>?_;have ltC:∀b o,s2.heap.get? b=some o->b≠C:=fun b o e=>Nat.ne_of_lt (show @LT.lt Nat instLTNat b C by have: @LT.lt Nat instLTNat b s2.heap.objs.size:=Heap.lt_size e;omega);have base:=I4.base;have freeC:H3 C=none:=I4.free
   have J:Inv X pins σ H3 s4:=by refine I2.call' (s':=s4) (ch:=fp) I4.os ⟨base.keep,base.slot,base.free,base.there,base.tups,base.frzs,base.tbls⟩ I4.hok I4.bare (fun b hb=>?_);refine gM (f2 b hb) fun f0 f1 f2' f3 f4 f5=>?_;exact⟨f3,f1,f4,f5⟩
   have neL:C≠X.env.locals:=fun z=>by refine aO I2.loc fun m' p1_ _=>?_;obtain⟨o,_,_,ho,_⟩:=p1_;exact ltC _ o ho z.symm
   have neCell:∀y c,X.env.cells.lookup y=some c->c≠C:=fun y c e=>by refine gP (I2.cell y c e) fun v' o ho _=>?_;exact ltC c o ho
   show wpAny (model X.prog X.w) X.A (assign (.Name x p1) X.env (.ref s2.heap.objs.size)) _ _ s4;refine wpAny_assign_Name (xO J hN hix (.inl hxl) (show RelV (.ref s2.heap.objs.size) (.ref s2.heap.objs.size) from Z) (fun s5 J5 hsb=>?_) (.inr hxl));refine aO hsb fun a sb ha=>?_
   have neA:C≠a:=by
    rcases ha with z | z
    ·rw[z];exact neL
    ·exact fun q=>neCell _ _ z q.symm
   refine⟨m,hn.sameBut sb neA,fun h' hs'=>?_⟩;refine⟨_,H3,J5.turned (t':=s5.toks) (it:=C) (fun b o hb e=>(hs'.2 b hb).trans e) freeC neL (.inr ?_) neCell (fun p hp=>ltC p.1 p.2 (I2.pin p hp).1),qn⟩;exact Nat.le_trans I2.sz (show @LE.le Nat instLENat s2.heap.objs.size C by omega)
  ·refine dF (T.item (rH X sc N fp C s2 H2) Z Z Z (hc _ _ _ _) i [] s3 σ3 H3 _ I3 (stat fr3) st3 go) fun r s4 ⟨u,hr,h4⟩=>?_;subst hr;refine dF h4 fun _ s5 ⟨x,H5,I5,r5,y5,st5,fr5⟩=>?_;have I5':=I5.pinned (stat fr5) (T.obj _ _ st5)
   have again:∀{s7:Shared}{σ7:St}{H7:Hp},Inv (rH X sc N fp C s2 H2) ([]++rP fp s5.heap) σ7 H7 s7->N' σ7 H7->∃m,m<n/\∃i σ' H',Inv (rH X sc N fp C s2 H2) [] σ' H' s7/\tn i s7.heap/\(∀b∈fp,H' b=none)/\W i m σ' H':=fun{s7 σ7 H7} I7 n7=>by refine aO (hN σ7 H7 n7) fun m' hm w7=>?_;refine⟨m',hm,i+1,σ7,H7,I7.unpinned,T.keep _ _ _ st5 fun b hb o e=>(I7.pin (b,o) (List.mem_append_right _ (List.mem_append_right _ (jg hb e)))).1,fun b hb=>?_,w7⟩;refine aO (T.obj _ _ st5 b hb) fun o e d=>?_;exact(I7.pin (b,o) (List.mem_append_right _ (List.mem_append_right _ (jg hb e)))).2.1
   refine dF (hg s2 H2 C fp _ s5 σ3 H5 x u _ I5' r5 (step x H5 y5)) fun _ s6 ⟨σ6,H6,I6,q6⟩=>?_;refine dF (ht s2 H2 C fp _ s6 σ6 H6 _ I6 q6) fun b s7 ⟨H7,I7,q7⟩=>?_;cases b with
   | false=>
    rw[if_neg Bool.false_ne_true] at q7⊢;exact again I7 q7
   | true=>
    rw[if_pos rfl] at q7⊢;refine dF (he s2 H2 C fp _ s7 σ6 H7 _ I7 q7) fun u8 s8 ⟨v8,H8,I8,r8,xs,hD,hz,n8⟩=>?_;exact dF (dg (X:=rH X sc N fp C s2 H2) _ s8 σ6 H8 (.ref s2.heap.objs.size) [v8] (.ref s2.heap.objs.size) [u8] (fun _ H=>N' σ6 H) I8 Z (.cons r8 .nil) ⟨_,xs,v8,Z,Z,hD,hz,n8⟩) fun _ s9 ⟨_,H9,I9,_,n9⟩=>again I9 n9
 exact codeAny_compStart_list loop (T.self _ 0 _ _ _ stB loop)
theorem kI{x:Str}{ix:Nat}{p1 spos:Pos}{elt tgt iter:Expr}{ifs:List Expr}{wi:TI}{g:TG}{tt:TT}{te:TE}{pos:Pos}(hN:X.N.Nodup)(hix:X.N[ix]? =some x)(hxl:X.env.scope.names.lookup x=some .local)(hc:X.calm=true)(B:lz X.env.scope sc X.N N src)(hi:PI X tgt iter wi)(hg:∀(s:Shared)(H:Hp)(C:Addr)(fp:List Addr),PG (rH X sc N fp C s H) tgt g)(ht:∀(s:Shared)(H:Hp)(C:Addr)(fp:List Addr),Qh (rH X sc N fp C s H) ifs tt)(he:∀(s:Shared)(H:Hp)(C:Addr)(fp:List Addr),PE (rH X sc N fp C s H) elt te)(hs:∀x,foldedSetIterable iter X.env x=pure x:=by intro _;rfl)(hsw:swapsWith (.ListComp elt [⟨tgt,iter,ifs,0⟩] sc pos) (some (.Name x p1)) spos.line X.env=pure true:=by rfl):
  PS X (.Assign [.Name x p1] (.ListComp elt [⟨tgt,iter,ifs,0⟩] sc pos) spos) (Fz (JK src wi g tt te) (fK ix)):=
 zM (fun X=>X.calm=true) hN hix hxl (fun _ _ _ _=>hc) B hi.g hg ht he hs hsw
end
end L2
namespace L2
open PySem
theorem qu{K:W.Frag}{C F:Addr}(h1:W.subIn K (.ref F) (.type "BaseException")=some true)(h2:W.isClsIn K F=true)(h3:W.typeIn K (.ref F)=some (.type "type"))(h4:W.subIn K (.ref C) (.ref F)=some true):W.exmOne K (.ref C) (.ref F)=some true:=by
 unfold W.exmOne W.kitCls;have h2':(W.clsIn K F).isSome=true:=h2;rw[h1,if_pos (by decide)]
 dsimp only
 rw[h2',h3,if_pos (by simp),h4]
end L2
namespace L2
open PySem PySem.Spec PyProof.Rows
noncomputable def QF(K:W.Frag)(a:Addr):It:=
  ⟨fun i H=>∃xs x,aP K H a xs/\xs[i]? =some x,
   fun i H v H'=>∃T x,v= .ref T/\H T=none/\H'=upd H T (.tup [.int (i:Int),x])/\∀xs,aP K H a xs->xs[i]? =some x,
   fun i H=>∃xs,aP K H a xs/\xs.length<=i⟩
noncomputable def Sw(e it a:Addr)(i:Nat)(h:Heap):Prop:=(∃old,IsEnum h e it (i:Int) old)/\h.IsListIter it a i
theorem Fo{P:Program}{w:World}{K:W.Frag}{elts:List Expr}{x1}{pos:Pos}{e it a:Addr}(D:e≠it):
  Turn P w K (.Tuple elts x1 pos) (QF K a) [e,it] e (Sw e it a) where
 mem:=by simp
 obj:=fun i h st c hc=>by
  obtain⟨⟨old,s1⟩,⟨o4,e4,c4,d4⟩⟩:=st;simp only[List.mem_cons,List.not_mem_nil,or_false] at hc;rcases hc with rfl | rfl
  ·exact⟨_,s1,fun v e=>by cases e⟩
  ·exact⟨_,e4,fun v e=>by rw[d4] at e;cases e⟩
 keep:=fun i h h' st k=>by obtain⟨⟨old,s1⟩,s4⟩:=st;exact⟨⟨old,k e (by simp) _ s1⟩,s4.at fun o q=>k it (by simp) o q⟩
 item:=by
  intro X hP hw hK hc i pins s σ H E I hf st hg;subst hP hw hK;obtain⟨⟨old,s1⟩,s4⟩:=st;refine gP hg fun xs x hx ex=>?_;refine bL (I.list hx) fun its r pl _=>?_;refine aO (r.get ex) fun v1 hv1 rv1=>?_;refine wpAny_pyNext_enum_item s1 s4 pl.isList (x:=v1) (by simpa using hv1) D fun h' a1 a2 a5 a6 hk=>?_;have fresh:H s.heap.objs.size=none:=I.hok.fresh (Nat.le_refl _);have inF:∀c,c∈[e,it]->gF X pins H c:=fun c hc=>hf c hc
  have hk':∀c o,c∉[e,it]->s.heap.get? c=some o->h'.get? c=some o:=fun c o hc q=>by simp only[List.mem_cons,List.not_mem_nil,or_false,not_or] at hc;exact hk c o hc.1 hc.2 q
  have nF:∀c u,H c=some u->c∉[e,it]:=fun c u q hc=>by have:=(inF c hc).1;rw[q] at this;cases this
  have I1:Inv X pins σ (upd H s.heap.objs.size (.tup [.int (i:Int),x])) {s with heap:=h',toks:=s.toks+1}:=by
   refine I.step (g':=s.gens) (d':=s.drawn) (t':=s.toks+1) (ch:=[e,it]) (fun c hc=>?_) (fun c o _ _ hc e _=>hk' c o hc e) (fun c o _ _ hc e _=>⟨o.slots,hk' c o hc e⟩) (fun c o hc e n=>?_)
    (fun c o hc e=>⟨o,hk' c o hc e⟩) (fun c zs e=>?_) (fun c o u e=>?_) (fun c ps e=>?_) (fun m hm=>?_) (fun c u e=>?_) I.bare
   ·refine gM (inF c hc) fun f0 f1 f2 f3 f4 f5=>?_;exact⟨f3,f1,f4,f5⟩
   ·rw[aB (Nat.ne_of_lt (Heap.lt_size e))];exact n
   ·rw[aB (aF e fresh)];exact e
   ·rw[aB (aF e fresh)];exact e
   ·exact⟨#[],by rw[aB (aF e fresh),e];simp⟩
   ·refine pM hm fun o es ep ho rr=>?_;exact⟨o,es,ep,hk' _ o (fun hc=>(inF _ hc).2.1 Z) ho,rr⟩
   ·by_cases hce:c=s.heap.objs.size
    ·subst hce;rw[ak] at e;cases e;exact⟨by show 2<=sizeLine;decide,[_,v1],.cons ⟨_,Z⟩ (.cons rv1 .nil),⟨_,a5,Z,_,Z⟩⟩
    ·rw[aB hce] at e;refine(I.hok c u e).stay (fun d o hd q=>hk' d o ?_ q) (fun d q=>?_) fun d zs q=>?_
     ·rcases hd with z1 | z1
      ·rw[z1];exact nF c u e
      ·exact nF d _ z1
     ·rw[aB (aF q fresh)];exact q
     ·rw[aB (aF q fresh)];exact q
  refine⟨_,Z,wpAny_letOwnedTupleGo_enum a1 fun h2 hz2 hs2=>?_⟩;refine gM (inF e (by simp)) fun f0 f1 f2 f3 f4 f5=>?_;have nez:e≠s.heap.objs.size:=Nat.ne_of_lt (Heap.lt_size s1);have I2:Inv X pins σ (upd H s.heap.objs.size (.tup [.int (i:Int),x])) {s with heap:=h2,toks:=s.toks+1}:=I1.turned (t':=s.toks+1) (fun c o hc e=>hs2.extBut c o hc e) (by rw[aB nez];exact f0) f1 f3 f4 f5;refine⟨.ref s.heap.objs.size,_,I2,Z,⟨_,x,Z,fresh,Z,fun zs q1=>by rw[I.list_inj q1 hx];exact ex⟩,⟨⟨v1,?_⟩,a2.extBut hs2.extBut (Ne.symm D)⟩,fun c hc=>?_⟩
  ·have q:((i+1:Nat):Int)=(i:Int)+1:=by push_cast;rfl
   rw[q];exact hz2
  obtain⟨o,ho⟩:∃o,s.heap.get? c=some o:=by
   simp only[List.mem_cons,List.not_mem_nil,or_false] at hc;refine aO s4 fun o4 e4 _=>?_;rcases hc with rfl | rfl
   ·exact⟨_,s1⟩
   ·exact⟨_,e4⟩
  rw[aB (Nat.ne_of_lt (Heap.lt_size ho))];exact(inF c hc).1
 done:=by intro X hP hw hK hc i pins s σ H E I hf st hg;subst hP hw hK;obtain⟨⟨old,s1⟩,s4⟩:=st;refine aO hg fun xs hx hl=>?_;refine bL (I.list hx) fun its r pl _=>?_;have l1:=r.length;refine gM (hf it (by simp)) fun f0 f1 f2 f3 f4 f5=>?_;refine wpAny_pyNext_enum_end (I.ok.hd hc) s1 s4 pl.isList (by simp;omega) fun h' hk=>⟨Z,?_⟩;exact I.turned (t':=s.toks) (fun c o hc e=>hk c o hc e) f0 f1 f3 f4 f5
 self:=fun _ _ _ _ _ st h=>by obtain⟨⟨old,s1⟩,_⟩:=st;exact wpAny_pyIter_enum s1 h
noncomputable def Ow(K:W.Frag)(ta:TA):TI:=fun σ H R=>ta σ H fun vs H1=>∃a,vs=[.ref a]/\(∃xs,aP K H1 a xs)/\R (QF K a) H1
section
variable{X:Cx}
theorem Ld{a:Expr}{ta:TA}{p pos:Pos}{elts:List Expr}{x1}{tpos:Pos}(hg:Gl X "enumerate")(hm:X.mg "enumerate"=none)(ha:PA X [a] ta)(hs:starEach [a] X.env=[(false,eval a X.env)]:=by rfl):
  PI X (.Tuple elts x1 tpos) (.Call (.Name "enumerate" p) [a] [] pos) (Ow X.K ta):=by
 intro pins s σ H R I h;refine Call_ (nW I hg hm boot_enumerate (PyProof.Rows.callWith_type1 (dF (ha pos pins s σ H _ I h) fun us s1 ⟨vs,H1,I1,r1,q1⟩=>?_) (by rw[hs];rfl) (by rfl)));refine bL q1 fun l1 e p2_ q=>?_;obtain⟨xs,hx⟩:=p2_;subst e;refine aO (Vals.one r1) fun u1 e1_ ru1=>?_;subst e1_;cases ru1;refine bL (I1.list hx) fun its r pl _=>?_;refine call_enumerate_list pl.isList fun h' a1 a4 a6 hk=>?_;have I2:Inv X pins σ H1 {s1 with heap:=h'}:=I1.kept (t':=s1.toks) hk;refine wpAny_pyIter_enum (s:={s1 with heap:=h'}) a1 ?_;refine⟨s1.heap.objs.size+1,[s1.heap.objs.size+1,s1.heap.objs.size],_,QF X.K l1,H1,Z,I2,Fo (Nat.succ_ne_self _),⟨⟨_,a1⟩,a4⟩,fun c hc=>?_,q⟩
 have hle:s1.heap.objs.size<=c:=by simp only[List.mem_cons,List.not_mem_nil,or_false] at hc;show @LE.le Nat instLENat s1.heap.objs.size c;rcases hc with e | e<;>(rw[e];omega)
 exact I1.fpOk hle (I1.hok.fresh hle)
end
end L2
namespace PySem
namespace F
end F
end PySem
namespace L2
open PySem PySem.Spec PyProof.Rows
noncomputable def Sl(e:Expr):Prop:=∀es env,starEach (e::es) env=(false,eval e env)::starEach es env
structure zK(X:Cx)(e:Expr)(t:TE):Prop where
 pe:PE X e t
structure Qw(X:Cx)(es:List Expr)(t:TA):Prop where
 pa:PA X es t
section
variable{X:Cx}{a b c e:Expr}{es:List Expr}{ta tb te:TE}{t:TA}{p pos:Pos}
theorem Ox:Sl (.Subscript a b p):=fun _ _=>Z
theorem Ep{xs:List Expr}:Sl (.List xs p):=fun _ _=>Z
theorem Ij{o:Operator}:Sl (.BinOp a o b p):=fun _ _=>Z
theorem NK{xs:List Expr}{ks:List Keyword}:Sl (.Call a xs ks p):=fun _ _=>Z
theorem Sv{k:Const}{n:Nat}:Sl (.Constant k n p):=fun _ _=>Z
theorem Ro{x:Str}:Sl (.Name x p):=fun _ _=>Z
theorem Eb:Qw X [] nU:=⟨aj⟩
theorem dR(ha:zK X e te)(hs:Sl e)(hr:Qw X es t):Qw X (e::es) (iY te t):=⟨aa ha.pe hr.pa (hs _ _)⟩
theorem En(h:Qw X es t):zK X (.List es pos) (OJ t):=⟨bW h.pa⟩
end
section
variable{prog:Program}{w:World}{A:Around}{E:Value->Shared->Prop}{s:Shared}
theorem wV:entryFor table "proto.unchain"=some Builtin.«proto.unchain»:=entryFor_of_tree (by kernel_rfl)
theorem Cq{e:Value}{ea:Addr}{Q:Value->Shared->Prop}(hc:cJ s.heap ea)(h:∀v,Q v s):wpAny (model prog w) A (runValue (.builtin "proto.unchain" ⟨[e,.ref ea,.ref ea,.bool false],[]⟩)) Q E s:=by refine dB hc fun o vs ho hd h2=>?_;refine wpAny_runValue (codeAny_builtin wV ?_);show wpAny _ _ (field (.ref ea) 2>>=_) _ _ s;refine wpAny_bind (wpAny_field ho hd h2 ?_);rw[if_pos (show(Value.none==Value.none)=true from rfl)];exact wpAny_pure (h _)
theorem vB{α:Type}{x ea:Addr}{o:Obj}{vs:Array Value}{Q:α->Shared->Prop}(hh:A.handled=some (.ref ea))(ne:x≠ea)(hc:cJ s.heap ea)(ho:s.heap.get? x=some o)(hd:o.data= .fields vs)(hz:2<vs.size)(h:E (.ref x) {s with heap:=s.heap.update x (Obj.mapFields (·.setIfInBounds 2 (.ref ea)))}):wpAny (model prog w) A (raiseNew (.ref x):Sem α) Q E s:=by
 unfold raiseNew;refine wpAny_bind (wpAny_handled ?_);rw[hh]
 dsimp only
 rw[if_pos (show(Value.ref ea !=Value.ref x)=true from by simp[bne,Ne.symm ne])];exact wpAny_bind (wpAny_holding (Cq hc fun v=>wpAny_bind (wpAny_setField (x:= .ref ea) ho hd hz (wpAny_throw h))))
end
section
variable{prog:Program}{w:World}{A:Around}{E:Value->Shared->Prop}{s:Shared}
theorem Af{α : Type}{ea : Addr}{Q : α -> Shared -> Prop}(hh : A.handled = some (.ref ea))(hc : cJ s.heap ea)(h:∀x h',(∀b o,s.heap.get? b=some o->h'.get? b=some o)->(∃o,h'.get? x=some o/\o.cls= .type "StopIteration")->E (.ref x) {s with heap:=h'}):
    wpAny (model prog w) A (do raiseNew (<-newExc (.type "StopIteration") []):Sem α) Q E s:=by
  refine wpAny_bind ?_;simp only[newExc,newTuple];refine wpAny_bind (wpAny_newObj_type (wpAny_bind (m:=firstArgMember _ _) (wpAny_of_eq (a:=Value.none) (by first | rfl | (simp only[firstArgMember];rfl)) (wpAny_newObj_type ?_ (by size_fits)))) (by size_fits));have k1:∀b o,s.heap.get? b=some o->(s.heap.push {cls:=Value.type "tuple",data:=Data.seq #[]}:Heap).get? b=some o:=fun b o e=>Heap.get?_push_of_some _ e;show wpAny _ _ (raiseNew (.ref (s.heap.push {cls:=Value.type "tuple",data:=Data.seq #[]}:Heap).objs.size)) Q E {s with heap:=(s.heap.push {cls:=Value.type "tuple",data:=Data.seq #[]}:Heap).push _};generalize (s.heap.push {cls:=Value.type "tuple",data:=Data.seq #[]}:Heap)=h1 at k1⊢;refine dB hc fun oe vs he hd h2=>?_;have lt:∀b o,s.heap.get? b=some o->b≠h1.objs.size:=fun b o e=>Nat.ne_of_lt (Heap.lt_size (k1 b o e));refine vB hh (lt ea oe he).symm ⟨oe,vs,Heap.get?_push_of_some _ (k1 ea oe he),hd,h2⟩ (Heap.get?_push_size _ Z) Z (by simp only[Array.size_append];exact Nat.lt_of_lt_of_le (by decide) (Nat.le_add_right 6 _)) (h _ _ (fun b o e=>?_) ?_)
  · rw[Heap.get?_update_other _ _ (lt b o e).symm];exact Heap.get?_push_of_some _ (k1 b o e)
  · exact⟨_,Heap.get?_update_self _ (Heap.get?_push_size _ Z) (Obj.isFreed_of_fields (Obj.data_mapFields Z _)),Z⟩
end
section
variable{prog:Program}{w:World}{A:Around}{E:Value->Shared->Prop}{s:Shared}
theorem uR{it l ea:Addr}{i:Nat}{items:Array Value}{Q:Option Value->Shared->Prop}(hh:A.handled=some (.ref ea))(hc:cJ s.heap ea)(ne:ea≠it)(hit:s.heap.IsListIter it l i)(hl:s.heap.IsList l items)(hx:items[i]? =none)(hQ:∀h',Heap.ExtBut it s.heap h'->Q none {s with heap:=h'}):wpAny (model prog w) A (pyNext (.ref it)) Q E s:=by refine bL (id hit) fun oi g1 _ g2=>?_;refine uJ hl fun ol g3 _ nl g4=>?_;unfold pyNext;refine wpAny_bind (wpAny_attempt (wpAny_callSpecial?_slot hit.typeIs (name:=Str.ofString "__next__") slot_listiter_next (wpAny_call_entry slot_listiter_next hit.typeIs entry_listiter_next ?_ (args_listiter_next _))));refine wpAny_bind (m:=field (.ref it) 0) (wpAny_field g1 g2 Z (x:= .ref l) ?_);rw[if_neg (show ¬((Value.ref l==Value.none)=true) from Bool.noConfusion)];refine wpAny_bind (m:=field (.ref it) 1) (wpAny_field g1 g2 Z (x:= .int i 0) ?_);refine wpAny_bind (m:=seqItems? (.ref l)) (wpAny_seqItems g3 g4 ?_);simp only[Int.toNat_natCast,hx];refine wpAny_bind (wpAny_rule (wpAny_bind (wpAny_setField g1 g2 (by simp) ?_)));have ob:=Heap.SameBut.update (a:=it) (h:=s.heap) (f:=Obj.mapFields (·.setIfInBounds 0 Value.none));show wpAny _ A.in1 (do raiseNew (<-newExc (.type "StopIteration") []):Sem _) _ _ _;refine Af (show A.in1.handled=some (.ref ea) from hh) (hc.keeps fun o e=>(ob.2 ea ne).trans e) fun x h' kp ⟨ox,ex,cx⟩=>?_;refine wpAny_bind (wpAny_isInstance ⟨ox,ex,cx⟩ isSubtype_stop (T:="StopIteration") (b:=true) ?_);exact wpAny_pure (hQ h' fun b o hb e=>kp b o ((ob.2 b hb).trans e))
end
section
variable{prog:Program}{w:World}{A:Around}{E:Value->Shared->Prop}{s:Shared}
theorem tY{it t ea:Addr}{i:Nat}{items:Array Value}{Q:Option Value->Shared->Prop}(hh:A.handled=some (.ref ea))(hc:cJ s.heap ea)(ne:ea≠it)(hit:IsTupIter s.heap it t i)(ht:IsTup s.heap t items)(hx:items[i]? =none)(hQ:∀h',Heap.ExtBut it s.heap h'->Q none {s with heap:=h'}):wpAny (model prog w) A (pyNext (.ref it)) Q E s:=by refine bL (id hit) fun oi g1 _ g2=>?_;refine uJ ht fun ol g3 _ nl g4=>?_;unfold pyNext;refine wpAny_bind (wpAny_attempt (wpAny_callSpecial?_slot hit.typeIs (name:=Str.ofString "__next__") slot_tupleiter_next (wpAny_call_entry slot_tupleiter_next hit.typeIs entry_tupleiter_next ?_ (args_tupleiter_next _))));refine wpAny_bind (m:=field (.ref it) 0) (wpAny_field g1 g2 Z (x:= .ref t) ?_);rw[if_neg (show ¬((Value.ref t==Value.none)=true) from Bool.noConfusion)];refine wpAny_bind (m:=field (.ref it) 1) (wpAny_field g1 g2 Z (x:= .int i 0) ?_);refine wpAny_bind (m:=seqItems? (.ref t)) (wpAny_seqItems g3 g4 ?_);simp only[Int.toNat_natCast,hx];refine wpAny_bind (wpAny_rule (wpAny_bind (wpAny_setField g1 g2 (by simp) ?_)));have ob:=Heap.SameBut.update (a:=it) (h:=s.heap) (f:=Obj.mapFields (·.setIfInBounds 0 Value.none));show wpAny _ A.in1 (do raiseNew (<-newExc (.type "StopIteration") []):Sem _) _ _ _;refine Af (show A.in1.handled=some (.ref ea) from hh) (hc.keeps fun o e=>(ob.2 ea ne).trans e) fun x h' kp ⟨ox,ex,cx⟩=>?_;refine wpAny_bind (wpAny_isInstance ⟨ox,ex,cx⟩ isSubtype_stop (T:="StopIteration") (b:=true) ?_);exact wpAny_pure (hQ h' fun b o hb e=>kp b o ((ob.2 b hb).trans e))
theorem wY{env:Env}{elts:List Expr}{k:Nat}{pos:Pos}{t ea:Addr}{items:Array Value}{Q:Unit->Shared->Prop}(hh:A.handled=some (.ref ea))(hc:cJ s.heap ea)(ht:IsTup s.heap t items)(hn:(assignEach elts env).length=items.size)(hstar:(assignEach elts env).findIdx? (·.1)=none)(h:∀h',Heap.ExtBut s.heap.objs.size s.heap h'->wpAny (model prog w) A (assignInOrder ((assignEach elts env).map (·.2)) items.toList) Q E {s with heap:=h'}):
  wpAny (model prog w) A (assign (.Tuple elts k pos) env (.ref t)) Q E s:=by
 have lt:t≠s.heap.objs.size:=by obtain⟨o,ho,_⟩:=ht;exact Nat.ne_of_lt (Heap.lt_size ho)
 have lte:ea≠s.heap.objs.size:=by obtain⟨o,_,ho,_⟩:=hc;exact Nat.ne_of_lt (Heap.lt_size ho)
 rw[assign_Tuple];refine wpAny_bind (wpAny_standAt ?_);unfold unpack;rw[hn,hstar];refine wpAny_bind (wpAny_holding ?_);unfold unpackItems notIterableAtAll;refine wpAny_bind (wpAny_bind (wpAny_specialOf ht.typeIs slot_tuple_iter.lookup (wpAny_pure ?_)));simp only[Bool.false_eq_true,if_false];refine wpAny_bind (wpAny_holding (iter_tuple ht (wpAny_bind (wpAny_holding (draw_tuple lt items.size 0 _ _ ⟨_,Heap.get?_push_size _ Z,Z,Z⟩ (ht.push _) (by omega) fun h1 it1 sb=>?_)))));rw[List.drop_zero,List.take_of_length_le (by simp),if_neg (by simp)];have c1:cJ h1 ea:=hc.keeps fun o e=>(sb.2 ea lte).trans (Heap.get?_push_of_some _ e);refine wpAny_bind (wpAny_holding (tY hh c1 lte it1 ((ht.push _).extBut sb.extBut lt) (by simp) fun h2 e2=>?_));simp only[Option.isSome_none,Bool.false_eq_true,if_false];exact wpAny_pure (h h2 fun b o hb e=>e2 b o hb (sb.extBut b o hb (Heap.get?_push_of_some _ e)))
end
end L2
namespace L2
open PySem PySem.Spec PyProof.Rows C5
end L2
namespace C5
open PySem
end C5
namespace L2
open PySem PySem.Spec PyProof.Rows C5
end L2
namespace L2
open PySem PySem.Spec PyProof.Rows
theorem Ed{X:Cx}{es:List Expr}{k:Nat}{t:JT}{n:Nat}{pos:Pos}(K:W.Frag)(hK:X.K=K)(hc:X.calm=true)(h:Ot X es t)(hn:(assignEach es X.env).length=n:=by rfl)(hst:(assignEach es X.env).findIdx? (·.1)=none:=by rfl):PG X (.Tuple es k pos) (La K n t):=by subst hK;exact yu hc h hn hst
noncomputable def g2(K:W.Frag)(k1 k2:Nat):TG:=La K 2 (Bq (fK k1) (Bq (fK k2) Mm))
noncomputable def vo(σ:St)(k1 k2:Nat)(p:V×V):St:=(σ.set k1 (some p.1)).set k2 (some p.2)
noncomputable def Nr(J:It)(g:TG)(L:List (V×V))(k1 k2:Nat)(H:Hp):Prop:=∀H',aC H H'->(∀i p,L[i]? =some p->J.go i H'/\∀y H2,J.yld i H' y H2->∀(σ:St)(C:St->Hp->Prop),(∀H3,aC H' H3->C (vo σ k1 k2 p) H3)->g y σ H2 C)/\J.stop L.length H'
section
variable{K:W.Frag}{H:Hp}{k1 k2:Nat}
noncomputable def uK(xs:List V):List (V×V):=(List.range xs.length).map fun(i:Nat)=>(V.int (i:Int),xs.getD i .non)
theorem oX(xs:List V):(uK xs).length=xs.length:=by simp[uK]
theorem qM{xs:List V}{i:Nat}{p:V×V}(h:(uK xs)[i]? =some p):∃x,xs[i]? =some x/\p=(.int (i:Int),x):=by
 unfold uK at h
 have hi:i<xs.length:=by have:=(List.getElem?_eq_some_iff.mp h).1;simpa using this
 rw[List.getElem?_map,List.getElem?_range hi] at h;refine⟨xs[i],List.getElem?_eq_getElem hi,?_⟩;have:=(Option.some.inj h).symm;simpa[List.getD,hi] using this
theorem Gd{a:Addr}{xs:List V}(hx:aP K H a xs):Nr (QF K a) (g2 K k1 k2) (uK xs) k1 k2 H:=fun H' sm=>by refine⟨fun i p e=>?_,xs,sm.seq hx,by rw[oX];exact Nat.le_refl _⟩;refine aO (qM e) fun x e1 e2_=>?_;subst e2_;refine⟨⟨xs,x,sm.seq hx,e1⟩,fun v H2 hv σ C hC=>?_⟩;obtain⟨T,x',rfl,hT,rfl,hv⟩:=hv;have q1:=hv xs (sm.seq hx);rw[e1] at q1;cases q1;exact⟨T,_,Z,d7.of ak,Z,_,_,Z,_,_,Z,Z,hC _ (au hT)⟩
theorem xJ{σ:St}{p q:V×V}:vo (vo σ k1 k2 p) k1 k2 q=vo σ k1 k2 q:=by
 unfold vo;by_cases h:k1=k2
 ·subst h;simp only[List.set_set]
 ·rw[List.set_comm (some p.2) (some q.1) (Ne.symm h),List.set_set,List.set_set]
theorem zV{J:It}{g:TG}{L:List (V×V)}{tt:TT}{te:TE}{D:Addr}{σ0:St}{Fn:Hp->Prop}(f:V×V->V)(p:V×V->Bool)(S:Nr J g L k1 k2 H)(hn:L.length<=sizeLine)(hD:H D=none)(ht:∀x∈L,∀(H':Hp)(Qb:Bool->Hp->Prop),aC H H'->(∀H'',aC H' H''->Qb (p x) H'')->tt (vo σ0 k1 k2 x) H' Qb)(he:∀x∈L,p x=true->∀(H':Hp)(Q:VK),aC H H'->(∀H'',aC H' H''->Q (f x) H'')->te (vo σ0 k1 k2 x) H' Q)(hd:∀H',aC H H'->H' D=some (.lst ((L.filter p).map f))->Fn H'):
  ∃W:Nat->Nat->St->Hp->Prop,(∃m,W 0 m σ0 (upd H D (.lst [])))/\∀i m σ' H',W i m σ' H'->
   (J.stop i H'/\Fn H')\/(J.go i H'/\∃N:St->Hp->Prop,(∀σ2 H2,N σ2 H2->∃m',m'<m/\W (i+1) m' σ2 H2)/\∀x H2,J.yld i H' x H2->g x σ' H2 fun σ3 H3=>tt σ3 H3 fun b H4=>
    if b=true then te σ3 H4 fun v H5=>∃xs,H5 D=some (.lst xs)/\xs.length<sizeLine/\N σ3 (upd H5 D (.lst (xs++[v]))) else N σ3 H4):=by
 refine⟨fun i m σ' H'=>m=L.length - i/\i<=L.length/\(∀y,vo σ' k1 k2 y=vo σ0 k1 k2 y)/\aC H H'/\H' D=some (.lst (((L.take i).filter p).map f)),⟨L.length,Z,Nat.zero_le _,fun _=>Z,au hD,by rw[ak];rfl⟩,?_⟩;rintro i m σ' H' ⟨rfl,hi,hσ,sm,hH⟩;by_cases hlt:i<L.length
 ·have hx:L[i]? =some L[i]:=by simp[hlt]
  obtain⟨go,yl⟩:=(S H' sm).1 i _ hx;refine .inr ⟨go,fun σ2 H2=>(∀y,vo σ2 k1 k2 y=vo σ0 k1 k2 y)/\aC H H2/\H2 D=some (.lst (((L.take (i+1)).filter p).map f)),?_,?_⟩
  ·rintro σ2 H2 ⟨q1,q2,q3⟩;exact⟨L.length - (i+1),by omega,Z,hlt,q1,q2,q3⟩
  ·intro x H2 y;refine yl x H2 y σ' _ fun H3 s3=>?_;rw[hσ];have hm:L[i]∈L:=List.getElem_mem hlt;have tk:L.take (i+1)=L.take i++[L[i]]:=by rw[List.take_add_one,hx];rfl
   refine ht _ hm H3 _ (sm.trans s3) fun H4 s4=>?_;have s34:=s3.trans s4;cases hp:p L[i] with
   | true=>
    refine Fj (he _ hm hp H4 _ (sm.trans s34) fun H5 s5=>⟨_,s5 D _ (s34 D _ hH),?_,fun y=>xJ,cz (sm.trans (s34.trans s5)) hD,?_⟩)
    ·have h1:(((L.take i).filter p).map f).length<=(L.take i).length:=by rw[List.length_map];exact List.length_filter_le _ _
     rw[List.length_take] at h1;omega
    ·rw[ak,tk,List.filter_append,List.map_append];simp[hp]
   | false=>
    refine FZ ⟨fun y=>xJ,sm.trans s34,?_⟩;rw[tk,List.filter_append,List.filter_cons_of_neg (by simp[hp])];simpa using s34 D _ hH
 ·have e:i=L.length:=by omega
  subst e;exact .inl ⟨(S H' sm).2,hd H' sm (by rw[hH,List.take_length])⟩
end
end L2
namespace PySem
open Sem (wp)
open AutoSeq1 (wpAny_loadPart')
section
variable{prog:Program}{w:World}{A:Around}{E:Value->Shared->Prop}{s:Shared}
theorem lY{it l:Addr}{i:Nat}{items}{x:Value}{Q:Value->Shared->Prop}(hit:s.heap.IsTupleIter it l i)(hl:s.heap.IsTuple l items)(hx:items[i]? =some x)(hQ:∀h',h'.IsTupleIter it l (i+1)->Heap.SameBut it s.heap h'->Q x {s with heap:=h'}):
  wpAny (model prog w) A (Builtin.SmallTypes.nextOf (.ref it)) Q E s:=by
 refine bL (id hit) fun o ho hc hd=>?_;refine uJ hl fun ol hol _ nl hdl=>?_;unfold Builtin.SmallTypes.nextOf
 refine wpAny_bind (wpAny_callSpecial?_slot (name:=Str.ofString "__next__") hit.typeIs F.slot_tuple_iterator_next
  (wpAny_call_entry F.slot_tuple_iterator_next hit.typeIs F.entry_tuple_iterator_next ?_ (F.args_tuple_iterator_next_1 _)))
 show wpAny _ _ (field (.ref it) 0>>=_) _ _ s;refine wpAny_bind (wpAny_field ho hd (x:= .ref l) Z ?_);show wpAny _ _ (if(Value.ref l==Value.none)=true then _ else _) _ _ s;rw[if_neg (show ¬((Value.ref l==Value.none)=true) from Bool.false_ne_true)];show wpAny _ _ (field (.ref it) 1>>=_) _ _ s;refine wpAny_bind (wpAny_field ho hd (x:= .int i 0) Z ?_);show wpAny _ _ (seqItems? (.ref l)>>=_) _ _ s;refine wpAny_bind (wpAny_seqItems hol hdl ?_);simp only[Int.toNat_natCast,hx];refine wpAny_bind (wpAny_setField ho hd (by simp) (wpAny_pure ⟨x,Z,wpAny_pure (hQ _ ?_ (Heap.SameBut.update ..))⟩))
 exact⟨_,Heap.get?_update_self _ ho (Obj.isFreed_of_fields (Obj.data_mapFields hd _)),(Obj.cls_mapFields ..).trans hc,by rw[Obj.data_mapFields hd];simp[rawInt]⟩
theorem iC{it l : Addr}{i : Nat}{items}{Q : Value -> Shared -> Prop}(hh : A.handled = none)(hit:s.heap.IsTupleIter it l i)(hl:s.heap.IsTuple l items)(hx:items[i]? =none)(hE:∀h' e,Heap.ExtBut it s.heap h'->(∃o,h'.get? e=some o/\o.cls= .type "StopIteration")->E (.ref e) {s with heap:=h'}):
    wpAny (model prog w) A (Builtin.SmallTypes.nextOf (.ref it)) Q E s:=by
  refine bL (id hit) fun o ho hc hd=>?_;refine uJ hl fun ol hol _ nl hdl=>?_;unfold Builtin.SmallTypes.nextOf
  refine wpAny_bind (wpAny_callSpecial?_slot (name:=Str.ofString "__next__") hit.typeIs F.slot_tuple_iterator_next
    (wpAny_call_entry F.slot_tuple_iterator_next hit.typeIs F.entry_tuple_iterator_next ?_ (F.args_tuple_iterator_next_1 _)))
  show wpAny _ _ (field (.ref it) 0>>=_) _ _ s;refine wpAny_bind (wpAny_field ho hd (x:= .ref l) Z ?_);show wpAny _ _ (if(Value.ref l==Value.none)=true then _ else _) _ _ s;rw[if_neg (show ¬((Value.ref l==Value.none)=true) from Bool.false_ne_true)];show wpAny _ _ (field (.ref it) 1>>=_) _ _ s;refine wpAny_bind (wpAny_field ho hd (x:= .int i 0) Z ?_);show wpAny _ _ (seqItems? (.ref l)>>=_) _ _ s;refine wpAny_bind (wpAny_seqItems hol hdl ?_);simp only[Int.toNat_natCast,hx];refine wpAny_bind (wpAny_rule (wpAny_bind (wpAny_setField ho hd (by simp) ?_)));show wpAny _ _ (newExc (.type "StopIteration") []>>=_) _ _ _;refine wpAny_bind ?_;simp only[newExc,newTuple];refine wpAny_bind (wpAny_newObj_type ?_ (by size_fits));refine wpAny_bind (m:=firstArgMember _ _) (wpAny_of_eq (a:=Value.none) (by first | rfl | (simp only[firstArgMember];rfl)) ?_);refine wpAny_newObj_type ?_ (by size_fits);simp only[raiseNew];refine wpAny_bind (wpAny_handled ?_)
  first | rw[show A.in1.handled=none from hh] | rw[hh]
  refine wpAny_bind (wpAny_pure (wpAny_throw ?_));exact hE _ _ (((Heap.SameBut.update ..).extBut.push _).push _) ⟨_,Heap.get?_push_size _ Z,Z⟩
end
theorem Draws.tuple {prog:Program} {w:World} {A:Around} (hh:A.handled=none) (it l:Addr) (hne:l≠it) (items:Array Value):
  Draws prog w A it [it,l] items.size (fun i v=>items[i]? =some v) (fun i h=>h.IsTupleIter it l i/\h.IsTuple l items) where
 live:=fun _ _ st=>let⟨o,ho,_⟩:=st.1;⟨o,ho⟩
 frame:=fun _ _ _ st hk=>⟨let⟨o,ho,r⟩:=st.1;⟨o,hk it (by simp) o ho,r⟩,let⟨o,ho,r⟩:=st.2;⟨o,hk l (by simp) o ho,r⟩⟩
 item:=fun i s Q E hi st hQ=>by refine lY st.1 st.2 (x:=items[i]) (by simp[hi]) fun h' hit' hs'=>?_;exact hQ _ h' s.toks (by simp[hi]) ⟨hit',st.2.extBut hs'.extBut hne⟩ hs'
 done:=fun s Q E st hE=>iC hh st.1 st.2 (by simp) hE
theorem oA(l:Addr)(items:Array Value)(n:Nat)(dct:Option Addr)(sl:Array (Option Value)):
  Meets (Builtin.«enumerate.__new__» ⟨[.type "enumerate",.ref l],[]⟩) (fun _ R s=>s.heap.get? l=some {cls:= .type "tuple",dict:=dct,data:= .seq items n,slots:=sl}/\
   R (.ok (.ret (.ref (s.heap.push {cls:= .type "tuple_iterator",data:= .fields #[.ref l,.int 0 0]}).objs.size)))
    {s with heap:=(s.heap.push {cls:= .type "tuple_iterator",data:= .fields #[.ref l,.int 0 0]}).push {cls:= .type "enumerate",data:= .fields #[.none,.bool false,.ref s.heap.objs.size,rawInt 0,.none,.none]}}):=
 .of_wp fun prog w A R s h=>by
  obtain⟨hp,g,d,tk,os⟩:=s;obtain⟨hl,h⟩:=h;have hsub:=sub_enumerate;have hL:Heap.IsTuple (Shared.heap ⟨hp,g,d,tk,os⟩) l items:=⟨_,hl,Z,n,Z⟩
  wp_walk using wpAny_loadPart' hl
  refine wpAny_stack_any fun st=>wpAny_pure ?_
  split
  ·rename_i c _ _ _ _ _
   cases(c==Value.type "enumerate")
   ·wp_walk using wpAny_loadPart' hl,wpAny_pyIter_tuple hL
    exact⟨_,Z,h⟩
   ·wp_walk using wpAny_loadPart' hl,wpAny_pyIter_tuple hL
    exact⟨_,Z,h⟩
  ·wp_walk using wpAny_loadPart' hl,wpAny_pyIter_tuple hL
   exact⟨_,Z,h⟩
section
variable{prog:Program}{w:World}{A:Around}{E:Value->Shared->Prop}{s:Shared}
theorem oU{l:Addr}{items:Array Value}{Q:Value->Shared->Prop}(hL:s.heap.IsTuple l items)(h:∀h',IsEnum h' (s.heap.objs.size+1) s.heap.objs.size 0 .none->h'.IsTupleIter s.heap.objs.size l 0->h'.objs.size=s.heap.objs.size+2->
   (∀b o,s.heap.get? b=some o->h'.get? b=some o)->Q (.ref (s.heap.objs.size+1)) {s with heap:=h'}):
  wpAny (model prog w) A (call (.type "enumerate") [.ref l]) Q E s:=by
 refine uJ hL fun p0_ hl hc n hd=>?_;obtain⟨c,dct,dt,sl⟩:=p0_
 replace hc:c= .type "tuple":=hc
 replace hd:dt= .seq items n:=hd
 subst hc hd
 refine callType_new F.called_enumerate (by decide) (F.typeCall_enumerate_1 _) (F.newCall_enumerate_1 _) (fun obj=>F.args_object_init_2 obj _) F.entry_enumerate_new
  (oA l items n dct sl) ⟨hl,?_⟩
 have hz:(s.heap.push {cls:= .type "tuple_iterator",data:= .fields #[.ref l,.int 0 0]}).objs.size=s.heap.objs.size+1:=Heap.size_push ..;show _/\_;rw[hz]
 have he:IsEnum ((s.heap.push {cls:= .type "tuple_iterator",data:= .fields #[.ref l,.int 0 0]}).push
   {cls:= .type "enumerate",data:= .fields #[.none,.bool false,.ref s.heap.objs.size,rawInt 0,.none,.none]}) (s.heap.objs.size+1) s.heap.objs.size 0 .none:=by
  have:=Heap.get?_push_size (s.heap.push {cls:= .type "tuple_iterator",data:= .fields #[.ref l,.int 0 0]})
   (o:={cls:= .type "enumerate",data:= .fields #[.none,.bool false,.ref s.heap.objs.size,rawInt 0,.none,.none]}) Z
  rw[hz] at this;exact this
 refine⟨⟨_,he,Z⟩,h _ he ⟨_,Heap.get?_push_of_some _ (Heap.get?_push_size _ Z),Z,Z⟩ (by rw[Heap.size_push,hz]) fun b o x=>Heap.get?_push_of_some _ (Heap.get?_push_of_some _ x)⟩
end
section
variable{prog:Program}{w:World}{A:Around}{E:Value->Shared->Prop}{s:Shared}
theorem mL{e it l:Addr}{i:Nat}{items:Array Value}{old:Value}{Q:Option Value->Shared->Prop}(hh:A.handled=none)(he:IsEnum s.heap e it i old)(hit:s.heap.IsTupleIter it l i)(hl:s.heap.IsTuple l items)(hx:items[i]? =none)(hQ:∀h',Heap.ExtBut it s.heap h'->Q none {s with heap:=h'}):wpAny (model prog w) A (pyNext (.ref e)) Q E s:=by
 have hT:s.TypeIs (.ref e) "enumerate":=⟨_,he,Z⟩;unfold pyNext
 refine wpAny_bind (wpAny_attempt (wpAny_callSpecial?_slot (name:=Str.ofString "__next__") hT F.slot_enumerate_next
  (wpAny_call_entry F.slot_enumerate_next hT F.entry_enumerate_next ?_ (F.args_enumerate_next_1 _))))
 show wpAny _ _ (field (.ref e) 2>>=_) _ _ _;refine wpAny_bind (wpAny_field he Z (x:= .ref it) Z ?_);refine wpAny_bind (iC hh hit hl hx fun h' x he' hx'=>?_);refine aO hx' fun o ho hc=>?_;refine wpAny_bind (wpAny_isInstance (T:="StopIteration") (b:=true) ⟨o,ho,hc⟩ isSubtype_stop ?_);exact wpAny_pure (hQ _ he')
end
end PySem
namespace L2
open PySem PySem.Spec PyProof.Rows
noncomputable def K1(K:W.Frag)(a:Addr):It:=
  ⟨fun i H=>∃xs x,d7 K H a xs/\xs[i]? =some x,
   fun i H v H'=>∃T x,v= .ref T/\H T=none/\H'=upd H T (.tup [.int (i:Int),x])/\∀xs,d7 K H a xs->xs[i]? =some x,
   fun i H=>∃xs,d7 K H a xs/\xs.length<=i⟩
noncomputable def RW(e it a:Addr)(i:Nat)(h:Heap):Prop:=(∃old,IsEnum h e it (i:Int) old)/\h.IsTupleIter it a i
theorem Ce{P:Program}{w:World}{K:W.Frag}{elts:List Expr}{x1}{pos:Pos}{e it a:Addr}(D:e≠it):
  Turn P w K (.Tuple elts x1 pos) (K1 K a) [e,it] e (RW e it a) where
 mem:=by simp
 obj:=fun i h st c hc=>by
  obtain⟨⟨old,s1⟩,⟨o4,e4,c4,d4⟩⟩:=st;simp only[List.mem_cons,List.not_mem_nil,or_false] at hc;rcases hc with rfl | rfl
  ·exact⟨_,s1,fun v e=>by cases e⟩
  ·exact⟨_,e4,fun v e=>by rw[d4] at e;cases e⟩
 keep:=fun i h h' st k=>by obtain⟨⟨old,s1⟩,s4⟩:=st;exact⟨⟨old,k e (by simp) _ s1⟩,(let⟨o,ho,r⟩:=s4;⟨o,k it (by simp) o ho,r⟩)⟩
 item:=by
  intro X hP hw hK hc i pins s σ H E I hf st hg;subst hP hw hK;obtain⟨⟨old,s1⟩,s4⟩:=st;refine gP hg fun xs x hx ex=>?_;refine bL (I.tuple hx) fun its r pl _=>?_;refine aO (r.get ex) fun v1 hv1 rv1=>?_
  have hal:a≠it:=fun z=>by refine bL s4 fun o1 f1 f2 _=>?_;refine bL ((show s.heap.IsTuple a its.toArray from pl)) fun o2 g1 g2 _=>?_;rw[z,f1] at g1;cases g1;rw[f2] at g2;exact absurd g2 (by decide)
  have hae:e∉[it,a]:=fun z=>by
   simp only[List.mem_cons,List.not_mem_nil,or_false] at z;rcases z with z | z
   ·exact D z
   ·refine bL ((show s.heap.IsTuple a its.toArray from pl)) fun o2 g1 g2 _=>?_;rw[<-z,show s.heap.get? e=some _ from s1] at g1;cases g1;exact absurd g2 (by show ¬(Value.type "enumerate"=Value.type "tuple");decide)
  refine wpAny_pyNext_enum_itemD (Draws.tuple (A:=X.A.in1) (I.ok.hd hc) it a hal its.toArray) s1 ⟨s4,pl⟩ (by have:=(List.getElem?_eq_some_iff.mp hv1).1;simpa using this) D hae fun v2 h' tk hv2 a1 a2 a5 a6 hk=>?_
  have ev:v2=v1:=by
   have z:its.toArray[i]? =some v1:=by simpa using hv1
   rw[z] at hv2;exact(Option.some.inj hv2).symm
  subst ev;have fresh:H s.heap.objs.size=none:=I.hok.fresh (Nat.le_refl _);have inF:∀c,c∈[e,it]->gF X pins H c:=fun c hc=>hf c hc
  have hk':∀c o,c∉[e,it]->s.heap.get? c=some o->h'.get? c=some o:=fun c o hc q=>by simp only[List.mem_cons,List.not_mem_nil,or_false,not_or] at hc;exact hk c o hc.1 hc.2 q
  have nF:∀c u,H c=some u->c∉[e,it]:=fun c u q hc=>by have:=(inF c hc).1;rw[q] at this;cases this
  have I1:Inv X pins σ (upd H s.heap.objs.size (.tup [.int (i:Int),x])) {s with heap:=h',toks:=tk+1}:=by
   refine I.step (g':=s.gens) (d':=s.drawn) (t':=tk+1) (ch:=[e,it]) (fun c hc=>?_) (fun c o _ _ hc e _=>hk' c o hc e) (fun c o _ _ hc e _=>⟨o.slots,hk' c o hc e⟩) (fun c o hc e n=>?_)
    (fun c o hc e=>⟨o,hk' c o hc e⟩) (fun c zs e=>?_) (fun c o u e=>?_) (fun c ps e=>?_) (fun m hm=>?_) (fun c u e=>?_) I.bare
   ·refine gM (inF c hc) fun f0 f1 f2 f3 f4 f5=>?_;exact⟨f3,f1,f4,f5⟩
   ·rw[aB (Nat.ne_of_lt (Heap.lt_size e))];exact n
   ·rw[aB (aF e fresh)];exact e
   ·rw[aB (aF e fresh)];exact e
   ·exact⟨#[],by rw[aB (aF e fresh),e];simp⟩
   ·refine pM hm fun o es ep ho rr=>?_;exact⟨o,es,ep,hk' _ o (fun hc=>(inF _ hc).2.1 Z) ho,rr⟩
   ·by_cases hce:c=s.heap.objs.size
    ·subst hce;rw[ak] at e;cases e;exact⟨by show 2<=sizeLine;decide,[_,v2],.cons ⟨_,Z⟩ (.cons rv1 .nil),⟨_,a5,Z,_,Z⟩⟩
    ·rw[aB hce] at e;refine(I.hok c u e).stay (fun d o hd q=>hk' d o ?_ q) (fun d q=>?_) fun d zs q=>?_
     ·rcases hd with z1 | z1
      ·rw[z1];exact nF c u e
      ·exact nF d _ z1
     ·rw[aB (aF q fresh)];exact q
     ·rw[aB (aF q fresh)];exact q
  refine⟨_,Z,wpAny_letOwnedTupleGo_enum a1 fun h2 hz2 hs2=>?_⟩;refine gM (inF e (by simp)) fun f0 f1 f2 f3 f4 f5=>?_;have nez:e≠s.heap.objs.size:=Nat.ne_of_lt (Heap.lt_size s1);have I2:Inv X pins σ (upd H s.heap.objs.size (.tup [.int (i:Int),x])) {s with heap:=h2,toks:=tk+1}:=I1.turned (t':=tk+1) (fun c o hc e=>hs2.extBut c o hc e) (by rw[aB nez];exact f0) f1 f3 f4 f5;refine⟨.ref s.heap.objs.size,_,I2,Z,⟨_,x,Z,fresh,Z,fun zs q1=>by rw[I.tuple_inj q1 hx];exact ex⟩,⟨⟨v2,?_⟩,a2.1.extBut hs2.extBut (Ne.symm D)⟩,fun c hc=>?_⟩
  ·have q:((i+1:Nat):Int)=(i:Int)+1:=by push_cast;rfl
   rw[q];exact hz2
  obtain⟨o,ho⟩:∃o,s.heap.get? c=some o:=by
   simp only[List.mem_cons,List.not_mem_nil,or_false] at hc;refine aO s4 fun o4 e4 _=>?_;rcases hc with rfl | rfl
   ·exact⟨_,s1⟩
   ·exact⟨_,e4⟩
  rw[aB (Nat.ne_of_lt (Heap.lt_size ho))];exact(inF c hc).1
 done:=by
  intro X hP hw hK hc i pins s σ H E I hf st hg;subst hP hw hK;obtain⟨⟨old,s1⟩,s4⟩:=st;refine aO hg fun xs hx hl=>?_;refine bL (I.tuple hx) fun its r pl _=>?_;have l1:=r.length;refine gM (hf it (by simp)) fun f0 f1 f2 f3 f4 f5=>?_
  have hal:a≠it:=fun z=>by refine bL s4 fun o1 f1 f2 _=>?_;refine bL ((show s.heap.IsTuple a its.toArray from pl)) fun o2 g1 g2 _=>?_;rw[z,f1] at g1;cases g1;rw[f2] at g2;exact absurd g2 (by decide)
  refine mL (I.ok.hd hc) s1 s4 pl (by simp;omega) fun h' hk=>⟨Z,?_⟩;exact I.turned (t':=s.toks) (fun c o hc e=>hk c o hc e) f0 f1 f3 f4 f5
 self:=fun _ _ _ _ _ st h=>by obtain⟨⟨old,s1⟩,_⟩:=st;exact wpAny_pyIter_enum s1 h
noncomputable def MN(K:W.Frag)(ta:TA):TI:=fun σ H R=>ta σ H fun vs H1=>∃a,vs=[.ref a]/\(∃xs,d7 K H1 a xs)/\R (K1 K a) H1
section
variable{X:Cx}
theorem Ir{a:Expr}{ta:TA}{p pos:Pos}{elts:List Expr}{x1}{tpos:Pos}(K:W.Frag)(hK:X.K=K)(hg:Gl X "enumerate")(hm:X.mg "enumerate"=none)(ha:PA X [a] ta)(hs:starEach [a] X.env=[(false,eval a X.env)]:=by rfl):
  PI X (.Tuple elts x1 tpos) (.Call (.Name "enumerate" p) [a] [] pos) (MN K ta):=by
 subst hK;intro pins s σ H R I h;refine Call_ (nW I hg hm boot_enumerate (PyProof.Rows.callWith_type1 (dF (ha pos pins s σ H _ I h) fun us s1 ⟨vs,H1,I1,r1,q1⟩=>?_) (by rw[hs];rfl) (by rfl)));refine bL q1 fun l1 e p2_ q=>?_;obtain⟨xs,hx⟩:=p2_;subst e;refine aO (Vals.one r1) fun u1 e1_ ru1=>?_;subst e1_;cases ru1;refine bL (I1.tuple hx) fun its r pl _=>?_;refine oU (show s1.heap.IsTuple l1 its.toArray from pl) fun h' a1 a4 a6 hk=>?_;have I2:Inv X pins σ H1 {s1 with heap:=h'}:=I1.kept (t':=s1.toks) hk;refine wpAny_pyIter_enum (s:={s1 with heap:=h'}) a1 ?_;refine⟨s1.heap.objs.size+1,[s1.heap.objs.size+1,s1.heap.objs.size],_,K1 X.K l1,H1,Z,I2,Ce (Nat.succ_ne_self _),⟨⟨_,a1⟩,a4⟩,fun c hc=>?_,q⟩
 have hle:s1.heap.objs.size<=c:=by simp only[List.mem_cons,List.not_mem_nil,or_false] at hc;show @LE.le Nat instLENat s1.heap.objs.size c;rcases hc with e | e<;>(rw[e];omega)
 exact I1.fpOk hle (I1.hok.fresh hle)
end
section
variable{K:W.Frag}{H:Hp}{k1 k2:Nat}
theorem aC.seqT {K:W.Frag} {H H':Hp} {a:Addr} {xs:List V} (e:aC H H') (h:d7 K H a xs):d7 K H' a xs:=by
 rcases h with(h | ⟨o,h⟩) | h
 ·exact .inl (.inl (e _ _ h))
 ·exact .inl (.inr ⟨o,e _ _ h⟩)
 ·exact .inr h
theorem CK{a:Addr}{xs:List V}(hx:d7 K H a xs):Nr (K1 K a) (g2 K k1 k2) (uK xs) k1 k2 H:=fun H' sm=>by refine⟨fun i p e=>?_,xs,(aC.seqT sm hx),by rw[oX];exact Nat.le_refl _⟩;refine aO (qM e) fun x e1 e2_=>?_;subst e2_;refine⟨⟨xs,x,(aC.seqT sm hx),e1⟩,fun v H2 hv σ C hC=>?_⟩;obtain⟨T,x',rfl,hT,rfl,hv⟩:=hv;have q1:=hv xs ((aC.seqT sm hx));rw[e1] at q1;cases q1;exact⟨T,_,Z,d7.of ak,Z,_,_,Z,_,_,Z,Z,hC _ (au hT)⟩
end
noncomputable def Hd(H:Hp)(ea:Addr):Prop:=∃C,H ea=some (jf ea C)
theorem Hd.mono {H H':Hp} {ea:Addr} (h:Hd H ea) (s:aC H H'):Hd H' ea:=by obtain⟨C,e⟩:=h;exact⟨C,s _ _ e⟩
theorem Inv.noctx {X:Cx} {pins:List (Addr×Obj)} {σ:St} {H:Hp} {s:Shared} {ea:Addr} (I:Inv X pins σ H s) (h:Hd H ea):cJ s.heap ea:=by obtain⟨C,e⟩:=h;obtain⟨⟨o,vs,p1,_,p3,p4⟩,_⟩:=(show dO X.prog X.w H s.heap ea (jf ea C) from I.hok ea _ e);exact⟨o,vs,p1,p3,p4⟩
noncomputable abbrev yW(ea:Addr):Cx->Prop:=fun X=>X.A.handled=some (.ref ea)
noncomputable def Ik(K:W.Frag)(a ea:Addr):It:=⟨(Lh K a).go,(Lh K a).yld,fun i H=>(Lh K a).stop i H/\Hd H ea⟩
theorem Bx{P:Program}{w:World}{K:W.Frag}{tg:Expr}{ea:Addr}(a it:Addr):Ls (yW ea) P w K tg (Ik K a ea) [it] it (fun i h=>h.IsListIter it a i) where
 mem:=List.mem_singleton.mpr Z
 obj:=fun i h st b hb=>by rw[List.mem_singleton.mp hb];refine bL st fun o e _ d=>?_;exact⟨o,e,fun v z=>by rw[d] at z;cases z⟩
 keep:=fun i h h' st k=>st.at fun o e=>k it (List.mem_singleton.mpr Z) o e
 item:=by rintro X rfl rfl rfl hc i pins s σ H E I hf st ⟨xs,x,hq,hx⟩;refine bL (I.list hq) fun its rv p _=>?_;refine aO (rv.get hx) fun u hu ru=>?_;refine gM (hf it (List.mem_singleton.mpr Z)) fun f0 f1 f2 f3 f4 f5=>?_;refine wpAny_pyNext_list_item st p.isList (x:=u) (by simpa using hu) fun h' st' sb=>⟨u,Z,?_⟩;have J:Inv X pins σ H {s with heap:=h'}:=I.turned (t':=s.toks) (fun b o hb e=>(sb.2 b hb).trans e) f0 f1 f3 f4 f5;refine bL (id st') fun o e c d=>?_;exact zZ (s:={s with heap:=h'}) e c d (by decide) ⟨x,H,J,ru,⟨Z,fun ys hy=>by rw[I.list_inj hy hq];exact hx⟩,st',fun b hb=>(hf b hb).1⟩
 done:=by rintro X rfl rfl rfl hc i pins s σ H E I hf st ⟨⟨xs,hq,hx⟩,he⟩;refine bL (I.list hq) fun its rv p _=>?_;refine gM (hf it (List.mem_singleton.mpr Z)) fun f0 f1 f2 f3 f4 f5=>?_;have hl:=rv.length;obtain⟨C,e⟩:=id he;exact uR hc (I.noctx he) (aF e f0) st p.isList (by simp;omega) fun h' eb=>⟨Z,I.turned (t':=s.toks) (fun b o hb e=>eb b o hb e) f0 f1 f3 f4 f5⟩
 self:=fun _ _ _ _ _ st h=>wpAny_pyIter_listiter st h
noncomputable def Ob(K:W.Frag)(ea:Addr)(tl:TE):TI:=fun σ H R=>tl σ H fun x H1=>∃a,x= .ref a/\(∃xs,aP K H1 a xs)/\R (Ik K a ea) H1
section
variable{X:Cx}{ea:Addr}
theorem Jr{tg l:Expr}{tl:TE}(K:W.Frag)(hK:X.K=K)(hl:PE X l tl):PIG (yW ea) X tg l (Ob K ea tl):=by subst hK;intro pins s σ H R I h;refine dF (hl pins s σ H _ I h) fun v s1 ⟨x,H1,J,r1,a,e,⟨xs,hq⟩,q⟩=>?_;subst e;cases r1;refine bL (J.list hq) fun its rv p _=>?_;refine wpAny_pyIter_list p.isList ⟨s1.heap.objs.size,[s1.heap.objs.size],_,_,H1,Z,J.kept (t':=s1.toks) fun b o e=>Heap.get?_push_of_some _ e,Bx a _,⟨_,Heap.get?_push_size _ Z,Z,Z⟩,fun b hb=>?_,q⟩;rw[List.mem_singleton.mp hb];exact J.fpOk (Nat.le_refl _) (J.hok.fresh (Nat.le_refl _))
noncomputable def Lz(K:W.Frag)(ea:Addr)(n:Nat)(t:JT):TG:=fun v σ H Q=>Hd H ea/\La K n t v σ H Q
theorem JX{es:List Expr}{k n:Nat}{pos:Pos}{t:JT}(K:W.Frag)(hK:X.K=K)(hc:yW ea X)(h:Ot X es t)(hn:(assignEach es X.env).length=n:=by rfl)(hst:(assignEach es X.env).findIdx? (·.1)=none:=by rfl):PG X (.Tuple es k pos) (Lz K ea n t):=by subst hK;intro pins s σ H v u Q I r ⟨he,a,xs,e1,hq,hl,hw⟩;subst e1;cases r;refine bL (I.tuple hq) fun its rv ht _=>?_;refine wY hc (I.noctx he) ht (by simp[hn,<-hl,rv.length]) hst fun h' hx=>?_;exact h pins _ σ H xs _ Q (I.kept (t':=s.toks) fun b o e=>hx b o (Nat.ne_of_lt (Heap.lt_size e)) e) (by simpa using rv) hw
end
theorem Gn{K:PySem.W.Frag}{a ea D:Addr}{L:List (Addr×Str×Bool)}{σ0:St}{H:Hp}{Fn:Hp->Prop}(hS:aP K H a (L.map fun t=>V.ref t.1))(hT:∀t∈L,d7 K H t.1 [.str t.2.1,.bl t.2.2])(hE:Hd H ea)(hn:L.length<=sizeLine)(h2:σ0.length=2)(hD:H D=none)(hd:∀H',aC H H'->H' D=some (.lst ((L.filter fun t=>t.2.2).map fun t=>V.str t.2.1))->Fn H'):
  ∃W:Nat->Nat->St->Hp->Prop,(∃m,W 0 m σ0 (upd H D (.lst [])))/\∀i m σ' H',W i m σ' H'->
   ((Ik K a ea).stop i H'/\Fn H')\/((Ik K a ea).go i H'/\∃N:St->Hp->Prop,(∀σ2 H2,N σ2 H2->∃m',m'<m/\W (i+1) m' σ2 H2)/\∀x H2,(Ik K a ea).yld i H' x H2->Lz K ea 2 (Bq (fK 0) (Bq (fK 1) Mm)) x σ' H2 fun σ3 H3=>tB (wg 1) σ3 H3 fun b H4=>
    if b=true then wg 0 σ3 H4 fun v H5=>∃xs,H5 D=some (.lst xs)/\xs.length<sizeLine/\N σ3 (upd H5 D (.lst (xs++[v]))) else N σ3 H4):=by
 refine⟨fun i m σ' H'=>m=L.length - i/\i<=L.length/\σ'.length=2/\aC H H'/\H' D=some (.lst (((L.take i).filter fun t=>t.2.2).map fun t=>V.str t.2.1)),⟨L.length,Z,Nat.zero_le _,h2,au hD,by rw[ak];rfl⟩,?_⟩;rintro i m σ' H' ⟨rfl,hi,hσ,sm,hH⟩;by_cases hlt:i<L.length
 ·have hx:L[i]? =some L[i]:=List.getElem?_eq_getElem hlt;have hx':(L.map fun t=>V.ref t.1)[i]? =some (.ref L[i].1):=by rw[List.getElem?_map,hx];rfl
  have hS':=sm.seq hS;refine .inr ⟨⟨_,_,hS',hx'⟩,fun σ2 H2=>σ2.length=2/\aC H H2/\H2 D=some (.lst (((L.take (i+1)).filter fun t=>t.2.2).map fun t=>V.str t.2.1)),fun σ2 H2 ⟨q1,q2,q3⟩=>⟨L.length - (i+1),by omega,Z,hlt,q1,q2,q3⟩,?_⟩;rintro x H2 ⟨rfl,hy⟩;have e:=hy _ hS';rw[hx'] at e;cases e;have tk:(L.take (i+1)).filter (fun t=>t.2.2)=(L.take i).filter (fun t=>t.2.2)++[L[i]].filter fun t=>t.2.2:=by rw[List.take_succ_eq_append_getElem hlt,List.filter_append]
  obtain⟨v0,v1,rfl⟩:∃v0 v1,σ'=[v0,v1]:=by
   match σ',hσ with
   | [a,b],_=>exact⟨a,b,Z⟩
  refine⟨hE.mono sm,_,_,Z,sm.seqT (hT _ (List.getElem_mem hlt)),Z,_,_,Z,_,_,Z,Z,_,Z,_,Z,?_⟩;have lf:((L.take i).filter fun t=>t.2.2).length<=i:=Nat.le_trans (List.length_filter_le _ _) (by rw[List.length_take];omega);cases hb:L[i].2.2 with
  | false=>
   refine FZ ?_;refine⟨Z,sm,?_⟩;rw[tk,List.filter_cons_of_neg (by simp[hb]),List.filter_nil,List.append_nil];exact hH
  | true=>
   refine Fj ?_;refine⟨_,Z,_,hH,by rw[List.length_map];omega,Z,cz sm hD,?_⟩;rw[ak,tk,List.filter_cons_of_pos (by simp[hb]),List.filter_nil,List.map_append];rfl
 ·have e:i=L.length:=by omega
  subst e;rw[List.take_length] at hH;exact .inl ⟨⟨⟨_,sm.seq hS,by rw[List.length_map];exact Nat.le_refl _⟩,hE.mono sm⟩,hd H' sm hH⟩
noncomputable def signsOf(x:Str):List V:=x.cps.toList.map fun c=> .str ⟨#[c]⟩
end L2
namespace L2
open PySem
end L2
namespace L2
open PySem PySem.Spec PyProof.Rows
theorem Ci{X:Cx}{T:String}{name:Str}{id:String}{r:V->List V->Hp->VK->Prop}{o e:Expr}{es:List Expr}{to:TE}{t:TA}{apos cpos:Pos}(K:W.Frag)(hK:X.K=K)(pa:PlainAttrs T)(slot:Slot T name id)(hty:typeOf (.builtin id)=pure (.type "method_descriptor"))(hm:Qi X id r)(ho:PE X o to)(ha:PA X (e::es) t)(hbase:attributeBase o name X.env (eval o X.env)=eval o X.env:=by rfl)(hfew:((backTo cpos (starEach (e::es) X.env)).all (fun x=> !x.1)&&(backToKw cpos (keywordEach [] X.env)).all (fun x=>x.1.isSome)&&decide ((e::es).length+([]:List Keyword).length+(if([]:List Keyword).isEmpty then 0 else 1)<30))=true:=by rfl)(hline:(apos.endLine==cpos.line)=true:=by rfl)(hs:starEach (e::es) X.env=(false,eval e X.env)::starEach es X.env:=by rfl)(hplain:(backTo cpos (starEach es X.env)).any (·.1)=false:=by rfl):
  PE X (.Call (.Attribute o name apos) (e::es) [] cpos) (R8 K T r to t):=by
 subst hK;exact ju pa slot hty hm ho ha hbase hfew hline hs hplain
section
variable{X:Cx}
noncomputable def Oj(ta:TA):TI:=fun σ H R=>ta σ H fun vs H1=>∃(i j c:Int)(n:Nat),vs=[.int i,.int j,.int c]/\(c≠0/\c.natAbs<1073741824)/\Builtin.Range.small i j c=true/\Builtin.Range.rangeSize i j c=(n:Int)/\R (Fb i c n) H1
theorem Bw{tg a b c:Expr}{ta:TA}{p pos:Pos}(hg:Gl X "range")(hm:X.mg "range"=none)(ha:PA X [a,b,c] ta)(hs:starEach [a,b,c] X.env=(false,eval a X.env)::starEach [b,c] X.env:=by rfl)(hs2:(backTo pos (starEach [b,c] X.env)).any (·.1)=false:=by rfl):
  PI X tg (.Call (.Name "range" p) [a,b,c] [] pos) (Oj ta):=by
 intro pins s σ H R I h;refine Call_ (nW I hg hm boot_range (PyProof.Rows.callWith_type1 (dF (ha pos pins s σ H _ I h) fun us s1 ⟨vs,H1,I1,r1,q1⟩=>?_) hs hs2));refine dG q1 fun i j st n e p5_ hsm hsz q=>?_;obtain⟨c0,c1⟩:=p5_;subst e;cases r1 with | cons r rr=>?_
 cases rr with | cons r' rr=>?_
 cases rr with | cons r'' rr=>?_
 cases rr;obtain⟨t,rfl⟩:=r;obtain⟨t',rfl⟩:=r';obtain⟨t'',rfl⟩:=r'';refine call_range_3 c0 ?_ (.inl (PyProof.noPylong_small c1));have I2:Inv X pins σ H1 {s1 with heap:=s1.heap.push {cls:= .type "range",data:= .fields #[.int i t,.int j t',.int st t'']},toks:=s1.toks}:=I1.kept fun b o e=>Heap.get?_push_of_some _ e;refine wpAny_pyIter_range (IsRange.new ..) hsm ⟨_,[_],_,Fb i st n,H1,Z,I2.kept (t':=s1.toks) fun b o e=>Heap.get?_push_of_some _ e,Ad _ i st n,?_,fun b hb=>?_,q⟩
 ·show IsRangeIter _ _ (i+((0:Nat):Int) * st) ((n:Int) - ((0:Nat):Int)) st;rw[show i+((0:Nat):Int) * st=i by simp,show(n:Int) - ((0:Nat):Int)=Builtin.Range.rangeSize i j st by rw[hsz];simp];exact Heap.get?_push_size _ Z
 ·rw[List.mem_singleton.mp hb];exact I2.fpOk (Nat.le_refl _) (I2.hok.fresh (Nat.le_refl _))
end
section
variable{X:Cx}{pins pn:List (Addr×Obj)}{σ:St}{H:Hp}{s:Shared}{XE:Value->Shared->Prop}
noncomputable def DQ(K:W.Frag)(CF:Addr)(i:Nat)(ts:Addr->TS)(D:Ends)(σ:St):XK:=fun cls _ H1=>
 ∃C,cls= .ref C/\W.exmOne K (.ref C) (.ref CF)=some true/\∀ea,H1 ea=none->ts ea (Pz i D) (σ.set i (some (.ref ea))) (upd H1 ea (jf ea C))
noncomputable def O6(K:W.Frag)(CF:Addr)(i:Nat)(tb:(St->XK)->TS)(ts:Addr->TS):TS:=fun D σ H=>tb (fun σ'=>DQ K CF i ts D σ') D σ H
theorem Lg{body:List Stmt}{cx n:Str}{CF:Addr}{i:Nat}{b0:Stmt}{suite:List Stmt}{np hpos pos:Pos}{tb:(St->XK)->TS}{ts:Addr->TS}(hN:X.N.Nodup)(hi:X.N[i]? =some n)(hl:X.env.scope.names.lookup n=some .local)(hg:Gl X cx)(hm:X.mg cx=some (.ref CF))(hst:X.stack=X.env::X.outer)(hf:X.env.frame=some X.env.locals)(hb:∀(pn:List (Addr×Obj))(XE:Value->Shared->Prop)(R:St->XK),lu (kj X.prog X.w) (X.at pn XE) R->qz (X.at pn XE) body (tb R))(hs:∀ea,qz (X.marked ea) (b0::suite) (ts ea))(hdb:(cx==("__debug__":Str))=false:=by decide):
  PS X (.Try body [.ExceptHandler (some (.Name cx np)) (some n) (b0::suite) hpos] [] [] pos) (O6 X.K CF i tb ts):=by
 intro pins s σ H D I hq;refine wpAny_Try_except (wpAny_mono (hb (X.pn++pins) _ (fun σ'=>DQ X.K CF i ts D σ') ?_ [] s σ H D I.at hq) (fun f s1 q=>?_) fun e s1 q=>q)
 ·intro pins0 σ0 H0 s0 e s' I0' hc;have I0:Inv X pins σ0 H0 s0:=I0'.unat;refine dJ hc fun ea cls a0 H' B e5_ fl nc os bare fw p11_=>?_;subst e5_;obtain⟨C,rfl,hex,q⟩:=p11_
  replace fl:Heap.FlyingW B (X.env::X.outer) ea (.ref C) a0 s'.heap:=by rw[<-hst];exact fl
  replace fw:Flew X.prog X.w (X.env::X.outer) H0 H' s0.heap B s'.heap ea:=by rw[<-hst];exact fw
  have fr0:X.A.frames=some (X.env::X.outer):=by rw[I0.ok.frames,hst]
  have new0:s0.heap.get? ea=none:=by
   cases g:s0.heap.get? ea with
   | none=>rfl
   | some o=>
    by_cases hb:ea∈frs (X.env::X.outer)
    ·refine FN (fl.2.2.1.mem hb) fun _ o1 e1 nf=>?_;refine jG fl.first fun oe vs e2 _ d2 _=>?_;rw[e1] at e2;cases e2;exact absurd d2 (nf vs)
    ·obtain⟨o',e1⟩:=fw.there ea o g hb;rw[fl.2.1] at e1;cases e1
  refine Gx fr0 hf fl nc fun h4 held4 nc4 up4=>?_;refine Mv held4 nc4 fun h5 fl5 nc5 up5=>?_
  have inv:∀{h6:Heap}{tk:Nat},Heap.FlyingW B (X.env::X.outer) ea (.ref C) a0 h6->cJ h6 ea->s'.heap.UpToSlots h6->Inv X pins σ0 (upd H' ea (jf ea C)) {s' with heap:=h6,toks:=tk}:=fun{h6 tk} fl6 nc6 up6=>by
   have f6:=fw.up fl up6;have u6:=f6.un fl6.1;refine jG fl6.first fun oe vs e6 c6 d6 _=>?_;refine dB nc6 fun on wn en dn nn=>?_;rw[e6] at en;cases en;rw[d6] at dn;cases dn
   refine I0.call' (s':={s' with heap:=h6,toks:=tk}) (ch:=[]) os (by
    rw[hst]
    exact⟨u6.keep,u6.slot,fun b o e n hx=>by
     rw[aB (fun z=>by rw[z,new0] at e;cases e)];exact u6.free b o e n hx,u6.there,fun b xs e=>by
     have z:=u6.tups b xs e;rw[aB (aF z fw.exc)];exact z,fun b o u e=>by
     have z:=u6.frzs b o u e;rw[aB (aF z fw.exc)];exact z,fun b ps e=>by
     obtain⟨more,z⟩:=u6.tbls b ps e;exact⟨more,by rw[aB (aF z fw.exc)];exact z⟩⟩) (fun b u e=>?_) bare (fun b hb=>absurd hb (by simp))
   by_cases hbe:b=ea
   ·subst hbe;rw[ak] at e;cases e;refine⟨⟨oe,vs,e6,c6,d6,nn⟩,⟨oe,e6⟩,fun h1 h2 p k=>?_⟩;refine jG p fun o ws p1 p2 p3 p4=>?_;exact⟨o,ws,k o p1,p2,p3,p4⟩
   ·rw[aB hbe] at e;refine(f6.ok fl6.1 b u e).stay (fun _ _ _ g=>g) (fun c g=>?_) fun c xs g=>?_
    ·rw[aB (aF g fw.exc)];exact g
    ·rw[aB (aF g fw.exc)];exact g
  have I5:=inv (tk:=s'.toks) fl5 nc5 (up4.trans up5);refine wpAny_handleBy_cons (codeAny_handlers_test (mQ (X:=X.marked ea) (I5.marked ea) hg hm ?_ hdb)) (by intro z;cases z);refine aO fl5.there fun ob hob hobc=>?_
  have LT:W.Looks (model X.prog X.w) h5 (typeOf (.ref ea)) (.ref C):=by rw[<-hobc];exact(W.Looks.ld hob).andThen .now
  refine(W.exm_one (h:=h5) I5.kIn LT hex).here ?_;refine codeAny_handlers_suite_as ?_;refine yH fl5 nc5 fun h6 fl6 nc6 up6=>?_;have I6:=inv (tk:=s'.toks) fl6 nc6 ((up4.trans up5).trans up6);refine uM I6 hN hi (Or.inl hl) (show RelV (.ref ea) (.ref ea) from Z) (fun s7 I7=>?_) (.inr hl);refine wpAny_mono (hs ea pins s7 _ _ _ (I7.marked ea) (q ea fw.exc)) (fun f s8 sp=>?_) fun _ _ z=>z.elim
  have fin:∀{σ8:St}{H8:Hp}{Q8:Shared->Prop},Inv (X.marked ea) pins σ8 H8 s8->(∀s9,Inv X pins (σ8.set i none) H8 s9->Q8 s9)->
    wpAny (model X.prog X.w) X.A (do bindName X.env n .none;unbindBehindTheSuite X.env n hpos) (fun _ s9=>Q8 s9) X.xe s8:=fun{σ8 H8 Q8} J k=>by
   have J':=J.unmarked I0.ok;refine aO J'.loc fun m hn hlk=>?_;refine wpAny_nameGoes_keeps hl hn (by rw[I0.ok.kind];rfl) fun h9 v hn9 sb9=>k _ ?_;exact J'.gone hN hi hl hlk hn9 sb9
  cases f with
  | next=>
   refine gP sp fun σ8 H8 J z=>?_;exact fin J fun s9 I9=>⟨_,H8,I9,z⟩
  | brk=>
   refine gP sp fun σ8 H8 J z=>?_;exact fin J fun s9 I9=>⟨_,H8,I9,z⟩
  | cont=>
   refine gP sp fun σ8 H8 J z=>?_;exact fin J fun s9 I9=>⟨_,H8,I9,z⟩
  | ret u=>
   refine oR sp fun v σ8 H8 J r z=>?_;exact fin J fun s9 I9=>⟨v,_,H8,I9,r,z⟩
 ·cases f with
  | next=>obtain⟨σ1,H1,J,z⟩:=q;exact wpAny_execs_nil ⟨σ1,H1,J.unat,z⟩
  | brk=>obtain⟨σ1,H1,J,z⟩:=q;exact⟨σ1,H1,J.unat,z⟩
  | cont=>obtain⟨σ1,H1,J,z⟩:=q;exact⟨σ1,H1,J.unat,z⟩
  | ret u=>obtain⟨v,σ1,H1,J,r,z⟩:=q;exact⟨v,σ1,H1,J.unat,r,z⟩
end
noncomputable def GK(t:TE):Prop:=∀σ H(Q Q':VK),(∀v H1,Q v H1->Q' v H1)->t σ H Q->t σ H Q'
noncomputable def Ou(t:TT):Prop:=∀σ H(Q Q':Bool->Hp->Prop),(∀b H1,Q b H1->Q' b H1)->t σ H Q->t σ H Q'
noncomputable def O3(t:TA):Prop:=∀σ H(Q Q':List V->Hp->Prop),(∀v H1,Q v H1->Q' v H1)->t σ H Q->t σ H Q'
noncomputable def Px(r:R2):Prop:=∀x y H(Q Q':VK),(∀v H1,Q v H1->Q' v H1)->r x y H Q->r x y H Q'
theorem pZ(i:Nat):GK (wg i):=fun σ H Q Q' h q=>by obtain⟨v,e,k⟩:=q;exact⟨v,e,h _ _ k⟩
theorem Rr(v:V):GK (tC v):=fun σ H Q Q' h q=>h _ _ q
theorem Ar{r:R2}{a b:TE}(hr:Px r)(ha:GK a)(hb:GK b):GK (Py r a b):=fun σ H Q Q' h q=>
 ha σ H _ _ (fun x H1 q1=>hb σ H1 _ _ (fun y H2 q2=>hr x y H2 Q Q' h q2) q1) q
theorem Lx(g:Int->Int->V):Px (Kv g):=fun x y H Q Q' h q=>by obtain⟨i,j,e1,e2,k⟩:=q;exact⟨i,j,e1,e2,h _ _ k⟩
theorem Q5(C:Int->Int->Prop)(g:Int->Int->V):Px (rI C g):=fun x y H Q Q' h q=>by obtain⟨i,j,e1,e2,c,k⟩:=q;exact⟨i,j,e1,e2,c,h _ _ k⟩
theorem Qj:Px R4:=fun x y H Q Q' h q=>⟨q.1,h _ _ q.2⟩
theorem BP:O3 nU:=fun σ H Q Q' h q=>h _ _ q
theorem qF{a:TE}{t:TA}(ha:GK a)(ht:O3 t):O3 (iY a t):=fun σ H Q Q' h q=>ha σ H _ _ (fun x H1 q1=>ht σ H1 _ _ (fun xs H2 q2=>h _ _ q2) q1) q
theorem DN{r:List V->Hp->VK->Prop}{t:TA}(hr:∀xs H(Q Q':VK),(∀v H1,Q v H1->Q' v H1)->r xs H Q->r xs H Q')(ht:O3 t):GK (Ny r t):=fun σ H Q Q' h q=>ht σ H _ _ (fun xs H1 q1=>hr xs H1 Q Q' h q1) q
theorem qK{t:TE}(h:GK t):Ou (LK t):=fun σ H Q Q' hq q=>h σ H _ _ (fun x H1 q1=>by obtain⟨k,e,z⟩:=q1;exact⟨k,e,hq _ _ z⟩) q
theorem Mu{t u:TT}(h1:Ou t)(h2:Ou u):Ou (Ov t u):=fun σ H Q Q' hq q=>h1 σ H _ _ (fun b H1 q1=>by
 cases b with
 | true=>exact h2 σ H1 _ _ hq q1
 | false=>exact hq _ _ q1) q
end L2
namespace STb
open PySem PySem.SetTable
noncomputable def meets(m e:Nat):Nat->Nat->Nat->Bool
 | 0,i,_=>i==e
 | k+1,i,p=>i==e||meets m e k (leap m i p).1 (leap m i p).2
theorem Bt:∀e:Fin 8,∀i:Fin 8,meets 7 e.val 31 i.val 0=true:=by decide+kernel
theorem yZ:∀e:Fin 32,∀i:Fin 32,meets 31 e.val 31 i.val 0=true:=by decide+kernel
noncomputable def ye(m:Nat):Prop:=m=7\/m=31
theorem Cg{m e i:Nat}(hm:ye m)(he:e<=m)(hi:i<=m):meets m e 31 i 0=true:=by
 rcases hm with rfl | rfl
 ·exact Bt ⟨e,by omega⟩ ⟨i,by omega⟩
 ·exact yZ ⟨e,by omega⟩ ⟨i,by omega⟩
theorem zH(m i p:Nat):(leap m i p).1<=m:=by unfold leap;exact Nat.le_of_lt_succ (Nat.mod_lt _ (Nat.succ_pos m))
theorem xZ{m e:Nat}(hm:ye m)(he:e<=m):∀(k i p:Nat),i<=m->p<32 ^ k->meets m e (31+k) i p=true
 | 0,i,p,hi,hp=>by
  have:p=0:=by simpa using hp
  subst this;exact Cg hm he hi
 | k+1,i,p,hi,hp=>by
  show(i==e||meets m e (31+k) (leap m i p).1 (leap m i p).2)=true
  rw[xZ hm he k _ _ (zH m i p) (by show p / 32<32 ^ k;rw[Nat.pow_succ] at hp;exact Nat.div_lt_of_lt_mul (by rw[Nat.mul_comm];exact hp))]
  simp
theorem Lf(h:Int):bits h<32 ^ 13:=by
 unfold bits;have h1:h % (2 ^ 64:Int)<2 ^ 64:=Int.emod_lt_of_pos _ (by decide);have h0:0<=h % (2 ^ 64:Int):=Int.emod_nonneg _ (by decide);have:(32:Nat) ^ 13=36893488147419103232:=by decide
 omega
theorem xW{m e i:Nat}(h:Int)(hm:ye m)(he:e<=m)(hi:i<=m):meets m e 44 i (bits h)=true:=xZ hm he 13 i _ hi (Lf h)
noncomputable def Qf(m:Nat)(p:Probe):Probe:=
 if p.more>0 then{p with j:=p.j+1,more:=p.more - 1} else
 {p with j:=(leap m p.i p.perturb).1,more:=runEnd m (leap m p.i p.perturb).1 - (leap m p.i p.perturb).1,i:=(leap m p.i p.perturb).1,perturb:=(leap m p.i p.perturb).2}
theorem vm(t:SetTable)(p:Probe):t.advance p=Qf t.mask p:=rfl
noncomputable def blk(m i p:Nat):Probe:=⟨i,runEnd m i - i,i,p,none⟩
theorem Jj(t:SetTable)(h:Int):t.probeStart h=blk t.mask (bits h % (t.mask+1)) (bits h):=rfl
inductive Way(m:Nat)(sl:Nat->Option Nat):Probe->List Nat->Nat->Prop
 | stop {p:Probe}:sl p.j=none->Way m sl p [] p.j
 | live {p:Probe} {i:Nat} {l:List Nat} {e:Nat}:sl p.j=some i->Way m sl (Qf m p) l e->Way m sl p (i::l) e
variable{m:Nat}{sl:Nat->Option Nat}
theorem Way.free {p:Probe} {l:List Nat} {e:Nat} (w:Way m sl p l e):sl e=none:=by
 induction w with
 | stop h=>exact h
 | live _ _ ih=>exact ih
theorem run{i q:Nat}:∀(r j:Nat),(∃l e,Way m sl ⟨j,r,i,q,none⟩ l e/\l.length<=r)\/
  ((∀k,k<=r->∃x,sl (j+k)=some x)/\∀l e,Way m sl (blk m (leap m i q).1 (leap m i q).2) l e->∃l2,Way m sl ⟨j,r,i,q,none⟩ l2 e/\l2.length=l.length+r+1)
 | 0,j=>by
  cases hs:sl j with
  | none=>exact .inl ⟨[],j,.stop (p:=⟨j,0,i,q,none⟩) hs,Nat.le_refl _⟩
  | some x=>
   refine .inr ⟨fun k hk=>?_,fun l e w=>⟨x::l,.live (p:=⟨j,0,i,q,none⟩) hs w,Z⟩⟩;have:k=0:=by omega
   subst this;exact⟨x,hs⟩
 | r+1,j=>by
  cases hs:sl j with
  | none=>exact .inl ⟨[],j,.stop (p:=⟨j,r+1,i,q,none⟩) hs,Nat.zero_le _⟩
  | some x=>
   rcases run (i:=i) (q:=q) r (j+1) with⟨l,e,w,hl⟩ | ⟨hk,h⟩
   ·exact .inl ⟨x::l,e,.live (p:=⟨j,r+1,i,q,none⟩) hs w,Nat.succ_le_succ hl⟩
   ·refine .inr ⟨fun k hk'=>?_,fun l e w=>?_⟩
    ·cases k with
     | zero=>exact⟨x,hs⟩
     | succ k=>have:=hk k (by omega);rwa [show j+1+k=j+(k+1) by omega] at this
    ·refine aO (h l e w) fun l2 w2 h2=>?_;exact⟨x::l2,.live (p:=⟨j,r+1,i,q,none⟩) hs w2,by simp[h2];omega⟩
theorem Ft(m i:Nat):runEnd m i - i<=9:=by unfold runEnd;split<;>omega
theorem Dq{e0 c:Nat}(hc:∀i,runEnd m i - i<=c)(hf:sl e0=none):∀(k i q:Nat),meets m e0 k i q=true->∃l e,Way m sl (blk m i q) l e/\l.length<=k * (c+1)+c
 | 0,i,q,h=>by
  have:i=e0:=by simpa[meets] using h
  subst this;exact⟨[],i,.stop (p:=blk m i q) hf,Nat.zero_le _⟩
 | k+1,i,q,h=>by
  rcases run (m:=m) (sl:=sl) (i:=i) (q:=q) (runEnd m i - i) i with⟨l,e,w,hl⟩ | ⟨hk,hw⟩
  ·exact⟨l,e,w,by have:=hc i;omega⟩
  ·have h':(i==e0||meets m e0 k (leap m i q).1 (leap m i q).2)=true:=h;rw[Bool.or_eq_true] at h';rcases h' with h' | h'
   ·obtain⟨x,hx⟩:=hk 0 (Nat.zero_le _);have:i=e0:=by simpa using h'
    rw[Nat.add_zero,this,hf] at hx;cases hx
   ·refine gP (Dq hc hf k _ _ h') fun l e w hl=>?_;refine aO (hw l e w) fun l2 w2 h2=>?_;exact⟨l2,e,w2,by have:=hc i;rw[Nat.succ_mul];omega⟩
theorem xG{e0:Nat}(hm:ye m)(he:e0<=m)(hf:sl e0=none)(h:Int):
  ∃l e,Way m sl (blk m (bits h % (m+1)) (bits h)) l e/\l.length<10 * turns m:=by
 have hx:=xW (i:=bits h % (m+1)) h hm he (Nat.le_of_lt_succ (Nat.mod_lt _ (Nat.succ_pos m)));rcases hm with rfl | rfl
 ·refine gP (Dq (c:=0) (fun i=>by unfold runEnd;split<;>omega) hf 44 _ _ hx) fun l e w hl=>?_;exact⟨l,e,w,by unfold turns;omega⟩
 ·refine gP (Dq (c:=9) (fun i=>Ft 31 i) hf 44 _ _ hx) fun l e w hl=>?_;exact⟨l,e,w,by unfold turns;omega⟩
theorem Way.le {p:Probe} {l:List Nat} {e:Nat} (w:Way m sl p l e) (hp:p.j+p.more<=m):e<=m:=by
 induction w with
 | @stop p _=>omega
 | @live p i l e h _ ih=>
  refine ih ?_;unfold Qf
  split
  ·show p.j+1+(p.more - 1)<=m;omega
  ·show(leap m p.i p.perturb).1+(runEnd m (leap m p.i p.perturb).1 - (leap m p.i p.perturb).1)<=m;have:=zH m p.i p.perturb;unfold runEnd;split<;>omega
theorem Jf{i q:Nat}(hi:i<=m):(blk m i q).j+(blk m i q).more<=m:=by show i+(runEnd m i - i)<=m;unfold runEnd;split<;>omega
theorem Way.ren {sl':Nat->Option Nat} {ρ:Nat->Nat} (hs:∀j,sl' j=(sl j).map ρ) {p:Probe} {l:List Nat} {e:Nat} (w:Way m sl p l e):Way m sl' p (l.map ρ) e:=by
 induction w with
 | stop h=>exact .stop (by rw[hs,h];rfl)
 | live h _ ih=>exact .live (by rw[hs,h];rfl) ih
theorem Way.more {sl':Nat->Option Nat} {ρ:Nat->Nat} {e0 x:Nat} (h0:sl e0=none) (h1:sl' e0=some x) (hs:∀j,j≠e0->sl' j=(sl j).map ρ) {p:Probe} {l l':List Nat} {e e':Nat}
  (w:Way m sl p l e) (w':Way m sl' p l' e'):(∀i∈l,ρ i∈l')/\(e=e0->x∈l'):=by
 induction w generalizing l' e' with
 | @stop p h=>
  refine⟨fun i hi=>(by cases hi),fun he=>?_⟩;cases w' with
  | stop h'=>rw[he,h1] at h';cases h'
  | live h' _=>rw[he,h1] at h';cases h';exact List.mem_cons_self
 | @live p i l e h _ ih=>
  have hne:p.j≠e0:=fun z=>by rw[z,h0] at h;cases h
  have hq:=hs p.j hne;rw[h] at hq;cases w' with
  | stop h'=>rw[hq] at h';cases h'
  | live h' t=>
   rw[hq] at h';cases h';obtain⟨a,b⟩:=ih t
   exact⟨fun k hk=>by
    rcases List.mem_cons.mp hk with rfl | hk
    ·exact List.mem_cons_self
    ·exact List.mem_cons_of_mem _ (a k hk),fun he=>List.mem_cons_of_mem _ (b he)⟩
end STb
namespace STb
open PySem PySem.SetTable
noncomputable def Cw(xs:Array Nat):Prop:=∀i k u v:Nat,i<k->xs[i]? =some u->xs[k]? =some v->u<v
theorem yP{α:Type}{xs:Array α}{i:Nat}{v:α}(h:xs[i]? =some v):i<xs.size:=by
 rcases Nat.lt_or_ge i xs.size with q | q
 ·exact q
 ·rw[Array.getElem?_eq_none q] at h;cases h
theorem uz{xs:Array Nat}{j:Nat}(hr:Cw xs):∀(fuel lo hi:Nat),lo<=hi->hi<=xs.size->hi - lo<=fuel->
  (∀i u,i<lo->xs[i]? =some u->u<j)->(∀i u,hi<=i->xs[i]? =some u->j<=u)->
  below.go xs j fuel lo hi<=xs.size/\(∀i u,i<below.go xs j fuel lo hi->xs[i]? =some u->u<j)/\∀i u,below.go xs j fuel lo hi<=i->xs[i]? =some u->j<=u
 | 0,lo,hi,h1,h2,h3,a,b=>by
  have:lo=hi:=by omega
  subst this;exact⟨h2,a,b⟩
 | fuel+1,lo,hi,h1,h2,h3,a,b=>by
  unfold below.go;by_cases hl:lo<hi
  ·rw[if_pos hl]
   dsimp only
   have hmid:(lo+hi) / 2<xs.size:=by omega
   obtain⟨v,hv⟩:∃v,xs[(lo+hi) / 2]? =some v:=⟨_,Array.getElem?_eq_getElem hmid⟩;have hg:xs.getD ((lo+hi) / 2) j=v:=by rw[Array.getD_eq_getD_getElem?,hv];rfl
   rw[hg];by_cases hc:v<j
   ·rw[if_pos hc];refine uz hr fuel _ _ (by omega) h2 (by omega) (fun i u hi' hu=>?_) b;rcases Nat.lt_or_ge i ((lo+hi) / 2) with q | q
    ·exact Nat.lt_trans (hr i _ u v q hu hv) hc
    ·have:i=(lo+hi) / 2:=by omega
     subst this;rw[hv] at hu;cases hu;exact hc
   ·rw[if_neg hc];refine uz hr fuel _ _ (by omega) (by omega) (by omega) a (fun i u hi' hu=>?_);rcases Nat.lt_or_ge ((lo+hi) / 2) i with q | q
    ·have:=hr _ i v u q hv hu;omega
    ·have:i=(lo+hi) / 2:=by omega
     subst this;rw[hv] at hu;cases hu;omega
  ·rw[if_neg hl];have:lo=hi:=by omega
   subst this;exact⟨h2,a,b⟩
theorem vI{xs:Array Nat}(hr:Cw xs)(j:Nat):below xs j<=xs.size/\(∀i u,i<below xs j->xs[i]? =some u->u<j)/\∀i u,below xs j<=i->xs[i]? =some u->j<=u:=
 uz hr xs.size 0 xs.size (Nat.zero_le _) (Nat.le_refl _) (Nat.le_refl _) (fun i u h=>absurd h (Nat.not_lt_zero _)) (fun i u h q=>by have:=yP q;omega)
theorem Cw.inj {xs:Array Nat} (hr:Cw xs) {i k u:Nat} (a:xs[i]? =some u) (b:xs[k]? =some u):i=k:=by
 rcases Nat.lt_trichotomy i k with q | q | q
 ·have:=hr _ _ _ _ q a b;omega
 ·exact q
 ·have:=hr _ _ _ _ q b a;omega
theorem below_at{xs:Array Nat}(hr:Cw xs){i j:Nat}(h:xs[i]? =some j):below xs j=i:=by
 refine wj (vI hr j) fun h1 h2 h3=>?_;rcases Nat.lt_trichotomy (below xs j) i with q | q | q
 ·obtain⟨v,hv⟩:∃v,xs[below xs j]? =some v:=⟨_,Array.getElem?_eq_getElem (Nat.lt_trans q (yP h))⟩;have:=h3 _ _ (Nat.le_refl _) hv;have:=hr _ _ _ _ q hv h;omega
 ·exact q
 ·have:=h2 _ _ q h;omega
noncomputable def sl(t:SetTable)(j:Nat):Option Nat:=match t.slot j with | .live i=>some i | _=>none
theorem has_none(j:Nat):has #[] j=false:=by unfold has;simp
theorem slot_of{t:SetTable}(hd:t.dummies=#[])(hr:Cw t.place)(j:Nat):
  (∃i:Nat,t.place[i]? =some j/\t.slot j= .live i/\sl t j=some i)\/((∀i:Nat,t.place[i]? ≠some j)/\t.slot j= .empty/\sl t j=none):=by
 by_cases h:∃i:Nat,t.place[i]? =some j
 ·obtain⟨i,hi⟩:=h
  have e:t.slot j= .live i:=by
   unfold slot;rw[below_at hr hi]
   dsimp only
   rw[hi];simp
  exact .inl ⟨i,hi,e,by unfold sl;rw[e]⟩
 ·have h':∀i:Nat,t.place[i]? ≠some j:=fun i q=>h ⟨i,q⟩
  have e:t.slot j= .empty:=by
   unfold slot
   have:(t.place[below t.place j]? ==some j)=false:=by
    cases q:(t.place[below t.place j]? ==some j)
    ·rfl
    ·exact absurd (eq_of_beq q) (h' _)
   simp only[this,hd,has_none];simp
  exact .inr ⟨h',e,by unfold sl;rw[e]⟩
theorem qD{t:SetTable}(hd:t.dummies=#[])(hr:Cw t.place){j i:Nat}:sl t j=some i↔t.place[i]? =some j:=by
 rcases slot_of hd hr j with⟨k,a,_,b⟩ | ⟨a,_,b⟩
 ·rw[b];constructor
  ·intro q;cases q;exact a
  ·intro q;rw[hr.inj q a]
 ·rw[b];constructor
  ·intro q;cases q
  ·intro q;exact absurd q (a i)
theorem rY{t:SetTable}(hd:t.dummies=#[])(hr:Cw t.place){j i:Nat}(h:sl t j=some i):t.slot j= .live i:=by
 rcases slot_of hd hr j with⟨k,a,c,b⟩ | ⟨a,_,b⟩
 ·rw[b] at h;cases h;exact c
 ·rw[b] at h;cases h
theorem Bu{t:SetTable}(hd:t.dummies=#[])(hr:Cw t.place){j:Nat}(h:sl t j=none):t.slot j= .empty:=by
 rcases slot_of hd hr j with⟨k,a,c,b⟩ | ⟨a,c,b⟩
 ·rw[b] at h;cases h
 ·exact c
structure Tab(es:Array (Int×Value))(t:SetTable):Prop where
 sz:t.place.size=es.size
 dm:t.dummies=#[]
 ris:Cw t.place
 le:∀i j:Nat,t.place[i]? =some j->j<=t.mask
 m:ye t.mask
 room:es.size * 5<t.mask * 3
 reach:∀(i:Nat)(h:Int)(x:Value),es[i]? =some (h,x)->∀l e,Way t.mask (sl t) (t.probeStart h) l e->i∈l
theorem Tab.fill {es:Array (Int×Value)} {t:SetTable} (T:Tab es t):t.fill=es.size:=by unfold SetTable.fill;rw[T.dm,T.sz];rfl
theorem Tab.fits {es:Array (Int×Value)} {t:SetTable} (T:Tab es t):t.fits es.size=true:=by unfold SetTable.fits;rw[T.fill,T.sz];have:=T.room;simp;omega
theorem Tab.odd {es:Array (Int×Value)} {t:SetTable} (T:Tab es t):t.gaveWay=false:=by unfold SetTable.gaveWay;rcases T.m with h | h<;>rw[h]<;>rfl
theorem Kg{t:SetTable}(hd:t.dummies=#[])(hr:Cw t.place)(hs:t.place.size<=t.mask):∃e,e<=t.mask/\sl t e=none:=by
 apply Classical.byContradiction;intro hn
 have all:∀e,e<=t.mask->∃i:Nat,t.place[i]? =some e:=fun e he=>by
  rcases slot_of hd hr e with⟨k,a,_,_⟩ | ⟨_,_,b⟩
  ·exact⟨k,a⟩
  ·exact absurd ⟨e,he,b⟩ hn
 have up:∀e,e<=t.mask->∃i:Nat,e<=i/\t.place[i]? =some e:=by
  intro e;induction e with
  | zero=>intro he;obtain⟨i,hi⟩:=all 0 he;exact⟨i,Nat.zero_le _,hi⟩
  | succ e ih=>
   intro he;refine aO (ih (by omega)) fun i h1 h2=>?_;obtain⟨k,hk⟩:=all (e+1) he;refine⟨k,?_,hk⟩;rcases Nat.lt_trichotomy k i with q | q | q
   ·have:=hr _ _ _ _ q hk h2;omega
   ·subst q;rw[h2] at hk;cases hk
   ·omega
 refine aO (up t.mask (Nat.le_refl _)) fun i h1 h2=>?_;have:=yP h2;omega
theorem Tab.way {es:Array (Int×Value)} {t:SetTable} (T:Tab es t) (h:Int):∃l e,Way t.mask (sl t) (t.probeStart h) l e/\l.length<10 * turns t.mask:=by refine aO (Kg T.dm T.ris (by rw[T.sz];have:=T.room;omega)) fun e he hf=>?_;exact xG T.m he hf h
theorem JL(t:SetTable)(h:Int):(t.probeStart h).j+(t.probeStart h).more<=t.mask:=by rw[Jj];exact Jf (Nat.le_of_lt_succ (Nat.mod_lt _ (Nat.succ_pos _)))
theorem jN{α:Type}{xs:Array α}{p:Nat}{x:α}(hp:p<=xs.size)(i:Nat):
  (insertAt xs p x)[i]? =if i<p then xs[i]? else if i=p then some x else xs[i - 1]? :=by
 have e:(insertAt xs p x)[i]? =(xs.toList.take p++x::xs.toList.drop p)[i]? :=by
  rw[<-Array.getElem?_toList]
  congr 1
  simp[insertAt,List.extract_eq_take_drop,List.take_of_length_le]
 rw[e];have hl:(xs.toList.take p).length=p:=by rw[List.length_take];simp;omega
 by_cases h1:i<p
 ·rw[if_pos h1,List.getElem?_append_left (by rw[hl];exact h1),List.getElem?_take_of_lt h1,Array.getElem?_toList]
 ·rw[if_neg h1,List.getElem?_append_right (by rw[hl];omega),hl];by_cases h2:i=p
  ·rw[if_pos h2,h2,Nat.sub_self];rfl
  ·rw[if_neg h2];obtain⟨k,hk⟩:∃k,i - p=k+1:=⟨i - p - 1,by omega⟩;rw[hk,List.getElem?_cons_succ,List.getElem?_drop,Array.getElem?_toList]
   congr 1;omega
theorem jr{α:Type}{xs:Array α}{p:Nat}{x:α}(hp:p<=xs.size):(insertAt xs p x).size=xs.size+1:=by
 have e:(insertAt xs p x).toList=xs.toList.take p++x::xs.toList.drop p:=by simp[insertAt,List.extract_eq_take_drop,List.take_of_length_le]
 rw[<-Array.length_toList,e];simp;omega
structure Tab0(es:Array (Int×Value))(t:SetTable):Prop where
 sz:t.place.size=es.size
 dm:t.dummies=#[]
 ris:Cw t.place
 le:∀i j:Nat,t.place[i]? =some j->j<=t.mask
 m:ye t.mask
 reach:∀(i:Nat)(h:Int)(x:Value),es[i]? =some (h,x)->∀l e,Way t.mask (sl t) (t.probeStart h) l e->i∈l
theorem Tab0.tab {es:Array (Int×Value)} {t:SetTable} (T:Tab0 es t) (h:es.size * 5<t.mask * 3):Tab es t:=⟨T.sz,T.dm,T.ris,T.le,T.m,h,T.reach⟩
theorem Nu{es:Array (Int×Value)}{t:SetTable}(T:Tab es t)(e:Nat):t.put e=({t with place:=insertAt t.place (below t.place e) e},below t.place e):=by
 unfold put;rw[T.dm,has_none];cases t;have:=T.dm
 dsimp only at this
 subst this;rfl
theorem Tab.put {es:Array (Int×Value)} {t:SetTable} (T:Tab es t) {h:Int} {x:Value} {l:List Nat} {e:Nat} (w:Way t.mask (sl t) (t.probeStart h) l e):
  Tab0 (insertAt es (below t.place e) (h,x)) {t with place:=insertAt t.place (below t.place e) e}:=by
 refine wj (vI T.ris e) fun b1 b2 b3=>?_;have hfree:=w.free;have hno:∀i:Nat,t.place[i]? ≠some e:=fun i q=>by rw[(qD T.dm T.ris).2 q] at hfree;cases hfree
 have hle:e<=t.mask:=w.le (JL t h);have hpe:below t.place e<=es.size:=by rw[<-T.sz];exact b1
 have hris:Cw (insertAt t.place (below t.place e) e):=by
  intro i k u v hik hu hv;rw[jN b1] at hu hv;by_cases i1:i<below t.place e
  ·rw[if_pos i1] at hu;by_cases k1:k<below t.place e
   ·rw[if_pos k1] at hv;exact T.ris _ _ _ _ hik hu hv
   ·rw[if_neg k1] at hv;by_cases k2:k=below t.place e
    ·rw[if_pos k2] at hv;cases hv;exact b2 _ _ i1 hu
    ·rw[if_neg k2] at hv;exact T.ris _ _ _ _ (by omega) hu hv
  ·rw[if_neg i1] at hu;rw[if_neg (by omega)] at hv;rw[if_neg (by omega)] at hv;by_cases i2:i=below t.place e
   ·rw[if_pos i2] at hu;cases hu;have:=b3 _ _ (by omega) hv;rcases Nat.lt_or_ge e v with q | q
    ·exact q
    ·have:e=v:=by omega
     subst this;exact absurd hv (hno _)
   ·rw[if_neg i2] at hu;exact T.ris _ _ _ _ (by omega) hu hv
 refine⟨?_,T.dm,hris,?_,T.m,?_⟩
 ·show(insertAt t.place _ e).size=_;rw[jr b1,jr hpe,T.sz]
 ·intro i j hj;have hj':(insertAt t.place (below t.place e) e)[i]? =some j:=hj;rw[jN b1] at hj'
  split at hj'
  ·exact T.le _ _ hj'
  ·split at hj'
   ·cases hj';exact hle
   ·exact T.le _ _ hj'
 ·intro i h' x' hi l' e' w'
  have hs1:sl {t with place:=insertAt t.place (below t.place e) e} e=some (below t.place e):=
   (qD (t:={t with place:=insertAt t.place (below t.place e) e}) T.dm hris).2 (by show(insertAt t.place (below t.place e) e)[below t.place e]? =some e;rw[jN b1,if_neg (Nat.lt_irrefl _),if_pos rfl])
  have hs2:∀j,j≠e->sl {t with place:=insertAt t.place (below t.place e) e} j=(sl t j).map fun i=>if i<below t.place e then i else i+1:=by
   intro j hj;rcases slot_of T.dm T.ris j with⟨k,a,_,b⟩ | ⟨a,_,b⟩
   ·rw[b];refine(qD (t:={t with place:=insertAt t.place (below t.place e) e}) T.dm hris).2 ?_;show(insertAt t.place (below t.place e) e)[if k<below t.place e then k else k+1]? =some j;rw[jN b1]
    split
    ·exact a
    ·rename_i hk;rw[if_neg (by omega),if_neg (by omega)];exact a
   ·rw[b];rcases slot_of (t:={t with place:=insertAt t.place (below t.place e) e}) T.dm hris j with⟨k,a',_,b'⟩ | ⟨a',_,b'⟩
    ·exfalso
     have a2:(insertAt t.place (below t.place e) e)[k]? =some j:=a';rw[jN b1] at a2
     split at a2
     ·exact a _ a2
     ·split at a2
      ·cases a2;exact hj Z
      ·exact a _ a2
    ·rw[b'];rfl
  rw[jN hpe] at hi;by_cases i1:i<below t.place e
  ·rw[if_pos i1] at hi;refine gP (T.way h') fun l0 e0 w0 _=>?_;have:=(w0.more hfree hs1 hs2 w').1 i (T.reach i h' x' hi _ _ w0)
   rwa [if_pos i1] at this
  ·rw[if_neg i1] at hi;by_cases i2:i=below t.place e
   ·rw[if_pos i2] at hi;cases hi;rw[i2];exact(w.more hfree hs1 hs2 w').2 Z
   ·rw[if_neg i2] at hi;refine gP (T.way h') fun l0 e0 w0 _=>?_;have:=(w0.more hfree hs1 hs2 w').1 (i - 1) (T.reach (i - 1) h' x' hi _ _ w0);rw[if_neg (by omega)] at this
    rwa [show i - 1+1=i by omega] at this
end STb
namespace STb
open PySem PySem.SetTable
theorem Jx:∀(n:Nat)(f:Nat->Nat),(∀i j,i<=n->j<=n->f i=f j->i=j)->(∀i,i<=n->f i<n)->False
 | 0,f,_,hl=>absurd (hl 0 (Nat.le_refl _)) (Nat.not_lt_zero _)
 | n+1,f,hi,hl=>by
  refine Jx n (fun i=>if f i=n then f (n+1) else f i) (fun i j h1 h2 h=>?_) (fun i h1=>?_)
  ·have a1:f i≠f (n+1):=fun q=>by have:=hi i (n+1) (by omega) (by omega) q;omega
   have a2:f j≠f (n+1):=fun q=>by have:=hi j (n+1) (by omega) (by omega) q;omega
   have a3:=hi i j (by omega) (by omega)
   split at h
   ·split at h
    ·exact a3 (by omega)
    ·exact absurd h.symm a2
   ·split at h
    ·exact absurd h a1
    ·exact a3 h
  ·have a1:f i≠f (n+1):=fun q=>by have:=hi i (n+1) (by omega) (by omega) q;omega
   have a2:=hl i (by omega);have a3:=hl (n+1) (by omega)
   split<;>omega
noncomputable def osl(ow:Array (Option Nat))(j:Nat):Option Nat:=ow.getD j none
structure Own(m:Nat)(hs:List Int)(ow:Array (Option Nat)):Prop where
 sz:ow.size=m+1
 lt:∀j k:Nat,osl ow j=some k->k<hs.length
 inj:∀j j' k:Nat,osl ow j=some k->osl ow j'=some k->j=j'
 ex:∀k:Nat,k<hs.length->∃j,osl ow j=some k
 reach:∀(k:Nat)(h:Int),hs[k]? =some h->∀l e,Way m (osl ow) (blk m (bits h % (m+1)) (bits h)) l e->k∈l
theorem Jl{m:Nat}{ow:Array (Option Nat)}(hs:ow.size=m+1){j k:Nat}(h:osl ow j=some k):j<=m:=by
 unfold osl at h;rcases Nat.lt_or_ge j ow.size with q | q
 ·omega
 ·rw[Array.getD_eq_getD_getElem?,Array.getElem?_eq_none q] at h;cases h
theorem Js{m:Nat}{hs:List Int}{ow:Array (Option Nat)}(O:Own m hs ow)(hl:hs.length<=m):∃e,e<=m/\osl ow e=none:=by
 apply Classical.byContradiction;intro hn
 have all:∀e,e<=m->∃k,osl ow e=some k:=fun e he=>by
  cases q:osl ow e with
  | none=>exact absurd ⟨e,he,q⟩ hn
  | some k=>exact⟨k,Z⟩
 refine Jx m (fun e=>(osl ow e).getD 0) (fun i j hi hj h=>?_) (fun i hi=>?_)
 ·obtain⟨k,hk⟩:=all i hi;obtain⟨k',hk'⟩:=all j hj;rw[hk,hk'] at h;have:k=k':=h;subst this;exact O.inj _ _ _ hk hk'
 ·obtain⟨k,hk⟩:=all i hi;rw[hk];exact Nat.lt_of_lt_of_le (O.lt _ _ hk) hl
theorem jW{ow:Array (Option Nat)}{j:Nat}(h:j<ow.size):(ow.getD j (some 0)).isNone=(osl ow j).isNone:=by unfold osl;rw[Array.getD_eq_getD_getElem?,Array.getD_eq_getD_getElem?,Array.getElem?_eq_getElem h];rfl
theorem Bk{m:Nat}{ow:Array (Option Nat)}(hz:ow.size=m+1):∀(fuel i q j:Nat),i<=m->layClean.free m ow fuel i q=some j->∃l,Way m (osl ow) (blk m i q) l j
 | 0,i,q,j,hi,h=>by unfold layClean.free at h;cases h
 | fuel+1,i,q,j,hi,h=>by
  unfold layClean.free at h
  have hrun:∀r j0:Nat,j0+r<=m->∀k,(List.range (r+1)).find? (fun k=>(ow.getD (j0+k) (some 0)).isNone)=some k->∃l,Way m (osl ow) ⟨j0,r,i,q,none⟩ l (j0+k):=by
   intro r;induction r with
   | zero=>
    intro j0 hj k hk;have h1:=List.find?_some hk;have h2:k∈List.range (0+1):=List.mem_of_find?_eq_some hk;rw[List.mem_range] at h2;have:k=0:=by omega
    subst this;rw[jW (by rw[hz];omega)] at h1;exact⟨[],.stop (p:=⟨j0,0,i,q,none⟩) (by simpa using h1)⟩
   | succ r ih=>
    intro j0 hj k hk;rw[List.range_succ_eq_map,List.find?_cons] at hk;cases hs:osl ow j0 with
    | none=>
     rw[jW (by rw[hz];omega),Nat.add_zero,hs] at hk;cases hk;exact⟨[],.stop (p:=⟨j0,r+1,i,q,none⟩) hs⟩
    | some x=>
     rw[jW (by rw[hz];omega),Nat.add_zero,hs] at hk;simp only[Option.isNone_some,List.find?_map] at hk;cases hf:(List.range (r+1)).find? (fun k=>(ow.getD (j0+1+k) (some 0)).isNone) with
     | none=>
      have:(List.range (r+1)).find? ((fun k=>(ow.getD (j0+k) (some 0)).isNone)∘Nat.succ)=none:=by rw[<-hf];congr 1;funext k;show(ow.getD (j0+(k+1)) (some 0)).isNone=_;rw[show j0+(k+1)=j0+1+k by omega]
      rw[this] at hk;cases hk
     | some k'=>
      have:(List.range (r+1)).find? ((fun k=>(ow.getD (j0+k) (some 0)).isNone)∘Nat.succ)=some k':=by rw[<-hf];congr 1;funext k;show(ow.getD (j0+(k+1)) (some 0)).isNone=_;rw[show j0+(k+1)=j0+1+k by omega]
      rw[this] at hk;have:k=k'+1:=by cases hk;rfl
      subst this;obtain⟨l,w⟩:=ih (j0+1) (by omega) k' hf;exact⟨x::l,.live (p:=⟨j0,r+1,i,q,none⟩) hs (by rw[show j0+(k'+1)=j0+1+k' by omega];exact w)⟩
  have hre:i<=runEnd m i:=by unfold runEnd;split<;>omega
  have hrm:runEnd m i<=m:=by unfold runEnd;split<;>omega
  have hn:runEnd m i+1 - i=(runEnd m i - i)+1:=by omega
  rw[hn] at h;cases hf:(List.range (runEnd m i - i+1)).find? (fun k=>(ow.getD (i+k) (some 0)).isNone) with
  | some k=>
   rw[hf] at h;have:j=i+k:=by cases h;rfl
   subst this;exact hrun _ i (by omega) k hf
  | none=>
   rw[hf] at h;obtain⟨l,w⟩:=Bk hz fuel _ _ j (zH m i q) h;rcases run (m:=m) (sl:=osl ow) (i:=i) (q:=q) (runEnd m i - i) i with⟨l',e',w',hl'⟩ | ⟨_,hw⟩
   ·exfalso
    have key:∀(r j0:Nat)(l':List Nat)(e':Nat),j0+r<=m->(∀k,k<=r->(osl ow (j0+k)).isNone=false)->Way m (osl ow) ⟨j0,r,i,q,none⟩ l' e'->r+1<=l'.length:=by
     intro r;induction r with
     | zero=>
      intro j0 l' e' _ ha w;cases w with
      | stop hs=>have:=ha 0 (Nat.le_refl _);rw[Nat.add_zero,hs] at this;cases this
      | live _ _=>simp
     | succ r ih=>
      intro j0 l' e' hj ha w;cases w with
      | stop hs=>have:=ha 0 (Nat.zero_le _);rw[Nat.add_zero,hs] at this;cases this
      | live _ w2=>
       have:=ih (j0+1) _ _ (by omega) (fun k hk=>by have:=ha (k+1) (by omega);rwa [show j0+1+k=j0+(k+1) by omega]) w2;simp;omega
    have:=key _ i l' e' (by omega) (fun k hk=>by rw[<-jW (by rw[hz];omega)];have:=List.find?_eq_none.mp hf k (List.mem_range.mpr (by omega));exact Bool.eq_false_iff.mpr this) w'
    omega
   ·refine aO (hw l j w) fun l2 w2 _=>?_;exact⟨l2,w2⟩
theorem Bg{m e0:Nat}{ow:Array (Option Nat)}(hz:ow.size=m+1)(hf:osl ow e0=none)(he:e0<=m):∀(k fuel i q:Nat),k<fuel->meets m e0 k i q=true->∃j,layClean.free m ow fuel i q=some j
 | k,0,i,q,hk,h=>absurd hk (Nat.not_lt_zero _)
 | k,fuel+1,i,q,hk,h=>by
  unfold layClean.free;cases hs:(List.range (runEnd m i+1 - i)).find? (fun k=>(ow.getD (i+k) (some 0)).isNone) with
  | some k=>exact⟨i+k,Z⟩
  | none=>
   dsimp only
   have hne:i≠e0:=fun z=>by subst z;have:=List.find?_eq_none.mp hs 0 (List.mem_range.mpr (by unfold runEnd;split<;>omega));rw[Nat.add_zero,jW (by rw[hz];omega),hf] at this;exact this Z
   cases k with
   | zero=>exact absurd (by simpa[meets] using h) hne
   | succ k=>
    have h':(i==e0||meets m e0 k (leap m i q).1 (leap m i q).2)=true:=h;rw[Bool.or_eq_true] at h';rcases h' with h' | h'
    ·exact absurd (by simpa using h') hne
    ·exact Bg hz hf he k fuel _ _ (by omega) h'
theorem KZ{ow:Array (Option Nat)}{j k:Nat}(hj:j<ow.size)(j':Nat):osl (ow.setIfInBounds j (some k)) j'=if j'=j then some k else osl ow j':=by
 unfold osl;rw[Array.getD_eq_getD_getElem?,Array.getD_eq_getD_getElem?,Array.getElem?_setIfInBounds];by_cases h:j'=j
 ·subst h;simp[hj]
 ·rw[if_neg (fun z=>h z.symm),if_neg h]
theorem vZ{m:Nat}{hs:List Int}{ow:Array (Option Nat)}(hm:m=31)(O:Own m hs ow)(hl:hs.length<=m)(h:Int):
  ∃j,layClean.free m ow (turns m) (bits h % (m+1)) (bits h)=some j/\Own m (hs++[h]) (ow.setIfInBounds j (some hs.length)):=by
 refine aO (Js O hl) fun e he hf=>?_;have hi:bits h % (m+1)<=m:=Nat.le_of_lt_succ (Nat.mod_lt _ (Nat.succ_pos m));obtain⟨j,hj⟩:=Bg O.sz hf he 44 (turns m) _ _ (by unfold turns;omega) (xW h (.inr hm) he hi);obtain⟨l,w⟩:=Bk O.sz _ _ _ _ hi hj;have hjm:j<=m:=w.le (Jf hi);have hjs:j<ow.size:=by rw[O.sz];omega
 have hfr:=w.free;have hset:=fun j'=>KZ (k:=hs.length) hjs j';refine⟨j,hj,⟨by simp[O.sz],?_,?_,?_,?_⟩⟩
 ·intro j' k hk;rw[hset] at hk;rw[List.length_append];show k<hs.length+1
  split at hk
  ·cases hk;omega
  ·have:=O.lt _ _ hk;omega
 ·intro a b k ha hb;rw[hset] at ha hb
  split at ha
  ·split at hb
   ·omega
   ·cases ha;have:=O.lt _ _ hb;omega
  ·split at hb
   ·cases hb;have:=O.lt _ _ ha;omega
   ·exact O.inj _ _ _ ha hb
 ·intro k hk;rw[List.length_append] at hk;have hk':k<hs.length+1:=hk;by_cases q:k=hs.length
  ·exact⟨j,by rw[hset,if_pos rfl,q]⟩
  ·obtain⟨j',hj'⟩:=O.ex k (by omega);refine⟨j',?_⟩;rw[hset,if_neg (fun z=>by rw[z,hfr] at hj';cases hj')];exact hj'
 ·intro k h' hk l' e' w';have hs1:osl (ow.setIfInBounds j (some hs.length)) j=some hs.length:=by rw[hset,if_pos rfl]
  have hs2:∀j',j'≠j->osl (ow.setIfInBounds j (some hs.length)) j'=(osl ow j').map id:=fun j' q=>by rw[hset,if_neg q,Option.map_id];rfl
  by_cases q:k<hs.length
  ·rw[List.getElem?_append_left q] at hk;refine gP (xG (m:=m) (sl:=osl ow) (.inr hm) he hf h') fun l0 e0 w0 _=>?_;exact(w0.more hfr hs1 hs2 w').1 k (O.reach k h' hk _ _ w0)
  ·rw[List.getElem?_append_right (by omega)] at hk
   have hkk:k=hs.length:=by
    rcases Nat.lt_or_ge (k - hs.length) 1 with z | z
    ·omega
    ·rw[List.getElem?_eq_none (by simpa using z)] at hk;cases hk
   subst hkk;rw[Nat.sub_self] at hk;cases hk;exact(w.more hfr hs1 hs2 w').2 Z
theorem Kr(m:Nat):Own m [] (Array.replicate (m+1) none):=by
 have h0:∀j,osl (Array.replicate (m+1) none) j=none:=fun j=>by
  unfold osl;rw[Array.getD_eq_getD_getElem?,Array.getElem?_replicate]
  split<;>rfl
 refine⟨by simp,fun j k h=>?_,fun j j' k h=>?_,fun k hk=>?_,fun k h hk=>?_⟩
 ·rw[h0] at h;cases h
 ·rw[h0] at h;cases h
 ·exact absurd hk (Nat.not_lt_zero _)
 ·cases hk
theorem Bp{m:Nat}(hm:m=31):∀(todo done:List Int)(ow:Array (Option Nat)),Own m done ow->done.length+todo.length<=m->
  ∃ow',todo.foldl (fun acc h=>do
   let(owner,k) <-acc
   let j <-layClean.free m owner (turns m) (bits h % (m+1)) (bits h)
   pure (owner.setIfInBounds j (some k),k+1)) (some (ow,done.length))=some (ow',done.length+todo.length)/\Own m (done++todo) ow'
 | [],done,ow,O,_=>⟨ow,Z,by rw[List.append_nil];exact O⟩
 | h::todo,done,ow,O,hl=>by
  rw[List.length_cons] at hl;refine aO (vZ hm O (by omega) h) fun j hj O'=>?_;refine aO (Bp hm todo (done++[h]) _ O' (by rw[List.length_append,List.length_singleton];omega)) fun ow' e O2=>?_;refine⟨ow',?_,by rw[List.append_assoc] at O2;exact O2⟩;rw[List.foldl_cons];simp only[Option.bind_eq_bind,Option.bind_some,hj,List.length_append,List.length_singleton,Option.pure_def] at e⊢;rw[e,List.length_cons]
  congr 2;omega
theorem Bb{m:Nat}(hm:m=31)(hs:Array Int)(hl:hs.size<=m):∃ow,layClean m hs=some ow/\Own m hs.toList ow:=by refine aO (Bp hm hs.toList [] _ (Kr m) (by simpa using hl)) fun ow e O=>?_;refine⟨ow,?_,by simpa using O⟩;unfold layClean;rw[<-Array.foldl_toList];have e':=e;simp only[List.length_nil] at e';rw[e'];rfl
end STb
namespace STb
open PySem PySem.SetTable
noncomputable def lives(m:Nat)(ow:Array (Option Nat)):List (Nat×Nat):=(List.range (m+1)).filterMap fun j=>(ow.getD j none).map (j,·)
theorem lZ{m:Nat}{ow:Array (Option Nat)}(hz:ow.size=m+1)(j k:Nat):(j,k)∈lives m ow↔osl ow j=some k:=by
 unfold lives;rw[List.mem_filterMap];constructor
 ·rintro⟨i,_,h⟩;cases q:ow.getD i none with
  | none=>rw[q] at h;cases h
  | some x=>
   rw[q] at h;have h1:i=j:=congrArg Prod.fst (Option.some.inj h);have h2:x=k:=congrArg Prod.snd (Option.some.inj h);rw[<-h1,<-h2];exact q
 ·intro h;refine⟨j,List.mem_range.mpr (by have:=Jl hz h;omega),?_⟩;have:ow.getD j none=some k:=h;rw[this];rfl
theorem vA(m:Nat)(ow:Array (Option Nat)):(lives m ow).Pairwise (fun a b=>a.1<b.1):=by
 unfold lives;rw[List.pairwise_filterMap];refine List.Pairwise.imp ?_ (List.pairwise_lt_range (n:=m+1));intro a b hab x hx y hy;cases q:ow.getD a none with
 | none=>rw[q] at hx;cases hx
 | some u=>
  cases q':ow.getD b none with
  | none=>rw[q'] at hy;cases hy
  | some v=>
   rw[q] at hx;rw[q'] at hy;have h1:(a,u)=x:=Option.some.inj hx;have h2:(b,v)=y:=Option.some.inj hy;rw[<-h1,<-h2];exact hab
theorem Bc{m:Nat}{hs:List Int}{ow:Array (Option Nat)}(O:Own m hs ow):List.Perm ((lives m ow).map (·.2)) (List.range hs.length):=by
 rw[List.perm_ext_iff_of_nodup]
 ·intro k;rw[List.mem_map,List.mem_range];constructor
  ·rintro⟨⟨j,k'⟩,h,rfl⟩;exact O.lt j k' ((lZ O.sz j k').mp h)
  ·intro h;obtain⟨j,hj⟩:=O.ex k h;exact⟨(j,k),(lZ O.sz j k).mpr hj,Z⟩
 ·unfold List.Nodup;rw[List.pairwise_map];refine List.Pairwise.imp_of_mem ?_ (vA m ow);rintro⟨a,k⟩ ⟨b,k'⟩ ha hb hab z;have z':k=k':=z;subst z';have:=O.inj _ _ _ ((lZ O.sz _ _).mp ha) ((lZ O.sz _ _).mp hb);have hab':a<b:=hab;omega
 ·exact List.nodup_range
theorem Way.mem {m:Nat} {sl:Nat->Option Nat} {p:Probe} {l:List Nat} {e:Nat} (w:Way m sl p l e):∀i∈l,∃j,sl j=some i:=by
 induction w with
 | stop _=>intro i hi;cases hi
 | live h _ ih=>
  intro i hi;rcases List.mem_cons.mp hi with rfl | hi
  ·exact⟨_,h⟩
  ·exact ih i hi
theorem Gk{es:Array (Int×Value)}{t:SetTable}(hsz:es.size<=18)(wanted:Nat)(hw:sizeAbove wanted=32):
  ∃t' order,t.relaid (es.map (·.1)) wanted=some (t',order)/\(order.filterMap (es[·]?)).size=es.size/\List.Perm (order.filterMap (es[·]?)).toList es.toList/\
   Tab (order.filterMap (es[·]?)) t'/\t'.mask=31/\t'.led=t.led/\t'.plain=t.plain:=by
 refine aO (Bb Z (es.map (·.1)) (by simp;omega)) fun ow hlay O=>?_;have hlen:(es.map (·.1)).toList.length=es.size:=by simp
 have hp:=Bc O;rw[hlen] at hp;have hmem:=fun j k=>lZ O.sz j k;have hris:=vA 31 ow;generalize hL:lives 31 ow=L at hp hmem hris;have hLlen:L.length=es.size:=by have:=hp.length_eq;simpa using this
 have hat:∀n j k:Nat,L[n]? =some (j,k)->osl ow j=some k:=fun n j k h=>(hmem j k).mp (List.mem_of_getElem? h);have hval:∀k,k∈L.map (·.2)->k<es.size:=fun k hk=>List.mem_range.mp (hp.mem_iff.mp hk)
 have hfm:(L.map (·.2)).filterMap (fun k=>es[k]?)=(L.map (·.2)).map (fun k=>(es[k]?).getD (0,.none)):=by
  have:∀l:List Nat,(∀k∈l,k<es.size)->l.filterMap (fun k=>es[k]?)=l.map (fun k=>(es[k]?).getD (0,.none)):=by
   intro l;induction l with
   | nil=>intro _;rfl
   | cons a l ih=>
    intro h;rw[List.map_cons,<-ih (fun k hk=>h k (List.mem_cons_of_mem _ hk)),List.filterMap_cons_some (b:=(es[a]?).getD (0,.none))];rw[Array.getElem?_eq_getElem (h a List.mem_cons_self)];rfl
  exact this _ hval
 have hes:((L.map (·.2)).toArray.filterMap (es[·]?)).toList=L.map (fun q=>(es[q.2]?).getD (0,.none)):=by rw[Array.toList_filterMap];show(L.map (·.2)).filterMap (fun k=>es[k]?)=_;rw[hfm,List.map_map];rfl
 have hss:((L.map (·.2)).toArray.filterMap (es[·]?)).size=es.size:=by rw[<-Array.length_toList,hes,List.length_map,hLlen]
 have hget:∀(n:Nat)(q:Int×Value),((L.map (·.2)).toArray.filterMap (es[·]?))[n]? =some q->∃j k:Nat,L[n]? =some (j,k)/\es[k]? =some q:=by
  intro n q h;rw[<-Array.getElem?_toList,hes,List.getElem?_map] at h;cases hq:L[n]? with
  | none=>rw[hq] at h;cases h
  | some jk=>
   obtain⟨j,k⟩:=jk;rw[hq] at h;have hk:k<es.size:=hval k (List.mem_map.mpr ⟨(j,k),List.mem_of_getElem? hq,Z⟩);have h':(es[k]?).getD (0,.none)=q:=Option.some.inj h;rw[Array.getElem?_eq_getElem hk] at h';exact⟨j,k,Z,by rw[Array.getElem?_eq_getElem hk];exact congrArg some h'⟩
 have hpl:∀n j:Nat,(L.map (·.1)).toArray[n]? =some j↔∃k,L[n]? =some (j,k):=by
  intro n j;rw[<-Array.getElem?_toList];show(L.map (·.1))[n]? =some j↔_;rw[List.getElem?_map];cases hq:L[n]? with
  | none=>exact⟨fun h=>(by cases h),fun⟨k,h⟩=>(by cases h)⟩
  | some jk=>
   obtain⟨j',k⟩:=jk;exact⟨fun h=>by have:j'=j:=Option.some.inj h;exact⟨k,by rw[this]⟩,fun⟨k',h⟩=>by cases h;rfl⟩
 have hR:Cw (L.map (·.1)).toArray:=by intro i k u v hik hu hv;obtain⟨a,ha⟩:=(hpl _ _).mp hu;obtain⟨b,hb⟩:=(hpl _ _).mp hv;have hi:=List.getElem?_eq_some_iff.mp ha;have hk:=List.getElem?_eq_some_iff.mp hb;obtain⟨h1,e1⟩:=hi;obtain⟨h2,e2⟩:=hk;have:=List.pairwise_iff_getElem.mp hris i k h1 h2 hik;rw[e1,e2] at this;exact this
 refine⟨{mask:=31,place:=(L.map (·.1)).toArray,dummies:=#[],finger:=t.finger,led:=t.led,moves:=t.movedTo 31,plain:=t.plain},(L.map (·.2)).toArray,?_,hss,?_,?_,Z,Z,Z⟩
 ·unfold relaid laid;rw[hw,hlay];have:(List.range (32 - 1+1)).filterMap (fun j=>(ow.getD j none).map (j,·))=L:=hL;simp only[Option.bind_eq_bind,Option.bind_some,Option.pure_def];rw[this]
 ·rw[hes];have h1:L.map (fun q=>(es[q.2]?).getD (0,.none))=(L.map (·.2)).map (fun k=>(es[k]?).getD (0,.none)):=by rw[List.map_map];rfl
  rw[h1];refine(hp.map _).trans ?_
  have:(List.range es.size).map (fun k=>(es[k]?).getD (0,Value.none))=es.toList:=by
   refine List.ext_getElem? fun n=>?_;rw[List.getElem?_map,Array.getElem?_toList (xs:=es)];rcases Nat.lt_or_ge n es.size with q | q
   ·rw[List.getElem?_range q,Array.getElem?_eq_getElem q];show some ((es[n]?).getD (0,.none))=_;rw[Array.getElem?_eq_getElem q];rfl
   ·rw[List.getElem?_eq_none (by simpa using q),Array.getElem?_eq_none q];rfl
  rw[this]
 ·refine⟨by rw[hss];simp[hLlen],Z,hR,?_,.inr Z,by rw[hss];show es.size * 5<31 * 3;omega,?_⟩
  ·intro i j h;obtain⟨k,hk⟩:=(hpl _ _).mp h;exact Jl O.sz (hat _ _ _ hk)
  ·intro n h x hn l e w;refine gP (hget n _ hn) fun j k hLn hek=>?_
   have hren:∀j',osl ow j'=(sl {mask:=31,place:=(L.map (·.1)).toArray,dummies:=#[],finger:=t.finger,led:=t.led,moves:=t.movedTo 31,plain:=t.plain} j').map (fun n=>((L[n]?).map (·.2)).getD 0):=by
    intro j';rcases slot_of (t:={mask:=31,place:=(L.map (·.1)).toArray,dummies:=#[],finger:=t.finger,led:=t.led,moves:=t.movedTo 31,plain:=t.plain}) rfl hR j' with⟨i,a,_,b⟩ | ⟨a,_,b⟩
    ·rw[b];obtain⟨k',hk'⟩:=(hpl _ _).mp a;rw[hat _ _ _ hk',Option.map_some,hk'];rfl
    ·rw[b];cases hq:osl ow j' with
     | none=>rfl
     | some k'=>
      obtain⟨n',hn'⟩:=List.getElem?_of_mem ((hmem j' k').mpr hq);exact absurd ((hpl _ _).mpr ⟨k',hn'⟩) (a n')
   have w2:=w.ren hren
   have hin:=O.reach k h (by rw[Array.getElem?_toList,Array.getElem?_map,hek];rfl) _ _ w2
   refine aO (List.mem_map.mp hin) fun n' hn' hk'=>?_;obtain⟨j',hj'⟩:=w.mem n' hn';have hp':=(qD (t:={mask:=31,place:=(L.map (·.1)).toArray,dummies:=#[],finger:=t.finger,led:=t.led,moves:=t.movedTo 31,plain:=t.plain}) Z hR).mp hj';obtain⟨k2,hk2⟩:=(hpl _ _).mp hp';rw[hk2] at hk';have:k2=k:=hk';subst this;have ej:j'=j:=O.inj _ _ _ (hat _ _ _ hk2) (hat _ _ _ hLn);subst ej;have:n'=n:=hR.inj ((hpl _ _).mpr ⟨_,hk2⟩) ((hpl _ _).mpr ⟨_,hLn⟩);rw[<-this];exact hn'
theorem Gh(led:Bool):Tab #[] (.fresh 0 0 led):=
 ⟨Z,Z,fun i k u v _ h=>(by cases h),fun i j h=>(by cases h),.inl Z,(by show 0 * 5<7 * 3;decide),fun i h x hi=>(by cases hi)⟩
end STb
namespace STb
open PySem PySem.SetTable
theorem Fl{t:SetTable}(hd:t.dummies=#[])(hr:Cw t.place){f:Nat->Int}{h:Int}:∀{l:List Nat}{p:Probe}{e:Nat}(fuel:Nat),Way t.mask (sl t) p l e->p.dummy=none->l.length<fuel->
  (probe.go t f h fuel p=some (.empty e none)/\∀i∈l,f i≠h)\/
  ∃l1 i l2 q,l=l1++i::l2/\(∀k∈l1,f k≠h)/\f i=h/\sl t q.j=some i/\q.dummy=none/\Way t.mask (sl t) (t.advance q) l2 e/\probe.go t f h fuel p=some (.candidate q.j i (t.advance q)):=by
 intro l;induction l with
 | nil=>
  intro p e fuel w hp hf;cases fuel with
  | zero=>exact absurd hf (Nat.not_lt_zero _)
  | succ fuel=>
   cases w with
   | stop hs=>
    refine .inl ⟨?_,fun i hi=>(by cases hi)⟩;unfold probe.go;rw[Bu hd hr hs,hp]
 | cons i l ih=>
  intro p e fuel w hp hf;cases fuel with
  | zero=>exact absurd hf (Nat.not_lt_zero _)
  | succ fuel=>
   cases w with
   | live hs w2=>
    have hdum:(t.advance p).dummy=none:=by rw[vm];unfold Qf;split<;>exact hp
    by_cases hh:f i=h
    ·refine .inr ⟨[],i,l,p,Z,fun k hk=>(by cases hk),hh,hs,hp,w2,?_⟩;unfold probe.go;rw[rY hd hr hs];simp[hh]
    ·have hgo:probe.go t f h (fuel+1) p=probe.go t f h fuel (t.advance p):=by rw[probe.go,rY hd hr hs];simp[hh]
     rcases ih fuel w2 hdum (by simpa using hf) with⟨a,b⟩ | ⟨l1,k,l2,q,a,b,c,d,d2,e',g⟩
     ·refine .inl ⟨by rw[hgo];exact a,fun k hk=>?_⟩;rcases List.mem_cons.mp hk with rfl | hk
      ·exact hh
      ·exact b k hk
     ·refine .inr ⟨i::l1,k,l2,q,by rw[a];rfl,fun k' hk=>?_,c,d,d2,e',by rw[hgo];exact g⟩;rcases List.mem_cons.mp hk with rfl | hk
      ·exact hh
      ·exact b k' hk
section
variable{prog:Program}{w:World}{K:Type}[DecidableEq K]{knd:KeyKind prog w K}{A:Around}{E:Value->Shared->Prop}{s:Shared}
noncomputable def wU(knd:KeyKind prog w K)(h:Heap)(es:Array (Int×Value)):Prop:=∀(i:Nat)(c:Int)(x:Value),es[i]? =some (c,x)->∃k b,c=tupleKeyHash knd k/\x= .ref b/\IsTupleKey knd h k b
theorem yc{k:List K}{a:Addr}{Q:Bool->Shared->Prop}(hk:IsTupleKey knd s.heap k a)(h:Q false s):wpAny (model prog w) A (ofAClassStatement 8 (.ref a)) Q E s:=by
  have hT:=hk.typeIs;refine jn hk fun o items n ho _ hd hi=>?_;unfold ofAClassStatement;refine wpAny_bind (wpAny_typeOf hT ?_)
  dsimp only
  refine wpAny_bind (wpAny_pure ?_);simp only[Bool.not_true,Bool.false_eq_true,if_false];refine wpAny_bind (wpAny_seqItems ho hd ?_);refine wpAny_bind ?_;show wpAny _ _ (forIn items _ _) _ _ s;rw[<-Array.forIn_toList];refine wpAny_forIn_list _ (fun rest r s'=>r.1=none/\s'=s/\∀v∈rest,carriedByValue v=true) _ ?_ ?_ _ _ ⟨Z,Z,hi.byValue⟩
  · rintro v rest r s' ⟨hr,rfl,hall⟩
    have hv:ofAClassStatement 7 v=pure false:=by
      have:=hall v List.mem_cons_self;cases v with
      | ref a=>simp[carriedByValue] at this
      | _=>first | rfl | simp[ofAClassStatement] | (unfold ofAClassStatement;rfl)
    rw[hv];refine wpAny_bind (wpAny_pure ?_);simp only[Bool.false_eq_true,if_false];exact wpAny_pure ⟨Z,Z,fun u hu'=>hall u (List.mem_cons_of_mem _ hu')⟩
  · rintro⟨r1,r2⟩ s' ⟨hr,rfl,_⟩;simp only at hr;subst hr;exact wpAny_pure h
theorem JC{k:List K}{a:Addr}{Q:Bool->Shared->Prop}(hk:IsTupleKey knd s.heap k a)(ys:List Value)(hy:∀y∈ys,∃k b,y= .ref b/\IsTupleKey knd s.heap k b)(h:Q false s):
  wpAny (model prog w) A (searchCouldBeSeen (.ref a) ys) Q E s:=by
 unfold searchCouldBeSeen;refine wpAny_bind ?_;refine wpAny_forIn_list _ (fun rest r s'=>r.1=none/\s'=s/\∀y∈rest,y∈ys) _ ?_ ?_ _ _ ⟨Z,Z,fun y hy=>hy⟩
 ·rintro v rest r s' ⟨hr,rfl,hall⟩;refine gP (hy v (hall v List.mem_cons_self)) fun k' b e2_ hb=>?_;subst e2_;simp only[carriedByValue,Bool.false_and,Bool.or_false];have fin:(⟨none,()⟩:Option Bool×Unit).fst=none/\s'=s'/\∀y∈rest,y∈ys:=⟨Z,Z,fun y hy=>hall y (List.mem_cons_of_mem _ hy)⟩
  split
  ·exact wpAny_pure fin
  ·refine wpAny_bind (wpAny_eqIsQuiet_tuple hk ?_);simp only[Bool.not_true,Bool.false_eq_true,if_false];refine wpAny_bind (wpAny_eqIsQuiet_tuple hb ?_);simp only[Bool.not_true,Bool.false_eq_true,if_false];refine wpAny_bind (yc hk ?_);simp only[Bool.false_eq_true,if_false];refine wpAny_bind (yc hb ?_);simp only[Bool.false_eq_true,if_false];exact wpAny_pure fin
 ·rintro⟨r1,r2⟩ s' ⟨hr,rfl,_⟩;simp only at hr;subst hr;exact wpAny_pure h
theorem search{a b:Addr}{o:Obj}{es:Array (Int×Value)}{ep:Nat}{t:SetTable}{k:List K}{Q:SetFound->Shared->Prop}{e:Nat}(hu:A.units<cLine)(ho:s.heap.get? a=some o)(hd:o.data= .set es ep t)(T:Tab es t)(hE:wU knd s.heap es)(hk:IsTupleKey knd s.heap k b):
  ∀(n:Nat)(l:List Nat)(stand:Option Probe)(fuel:Nat),l.length<n->Way t.mask (sl t) (stand.getD (t.probeStart (tupleKeyHash knd k))) l e->(stand.getD (t.probeStart (tupleKeyHash knd k))).dummy=none->
   n<=fuel->l.length<10 * turns t.mask->
   ((∃i∈l,∃c,es[i]? =some (tupleKeyHash knd k,.ref c)/\IsTupleKey knd s.heap k c)->Q (.there none) s)->
   ((∀i∈l,∀c,es[i]? =some (tupleKeyHash knd k,.ref c)->¬IsTupleKey knd s.heap k c)->Q (.free e false) s)->
   wpAny (model prog w) A (setSearchFrom a (.ref b) (tupleKeyHash knd k) true fuel stand) Q E s:=by
 intro n;induction n with
 | zero=>intro l _ _ h;exact absurd h (Nat.not_lt_zero _)
 | succ n ih=>
  intro l stand fuel hl hw hdum hf hn h1 h2;cases fuel with
  | zero=>exact absurd hf (Nat.not_succ_le_zero _)
  | succ fuel=>
   unfold setSearchFrom;refine wpAny_bind (wpAny_setState_of ho hd T.fits ?_)
   dsimp only
   rw[T.odd];simp only[Bool.false_eq_true,if_false]
   have hlive:∀i∈l,∃k' c,es[i]? =some (tupleKeyHash knd k',.ref c)/\IsTupleKey knd s.heap k' c:=by
    intro i hi;obtain⟨j,hj⟩:=hw.mem i hi;have hlt:i<es.size:=by rw[<-T.sz];exact yP ((qD T.dm T.ris).mp hj)
    obtain⟨⟨c,x⟩,hq⟩:∃q,es[i]? =some q:=⟨_,Array.getElem?_eq_getElem hlt⟩;refine dB (hE i c x hq) fun k' b' e2_ e3_ hb=>?_;subst e2_;subst e3_;exact⟨k',b',hq,hb⟩
   rcases Fl (f:=fun i=>(es[i]?.map (·.1)).getD 0) (h:=tupleKeyHash knd k) T.dm T.ris (10 * turns t.mask) hw hdum hn with⟨hp,hno⟩ | ⟨l1,i,l2,q,hl12,hno,hfi,hsl,hqd,hw2,hp⟩
   ·split
    ·rename_i met hm
     have hm':some (Met.empty e none)=some met:=hp.symm.trans hm;cases hm'
     dsimp only
     refine wpAny_pure (h2 fun i hi c hc hkc=>hno i hi ?_);rw[hc];rfl
    ·rename_i x hm
     exact(hm _ hp).elim
   ·split
    ·rename_i met hm
     have hm':some (Met.candidate q.j i (t.advance q))=some met:=hp.symm.trans hm;cases hm'
     dsimp only
     have hil:i∈l:=by rw[hl12];exact List.mem_append_right _ List.mem_cons_self
     refine gP (hlive i hil) fun k' c hei hck=>?_;have hslot:=rY T.dm T.ris hsl;have hsame:t.sameMemory t.moves t.mask=some true:=by unfold sameMemory;simp
     have hdq:(t.advance q).dummy=none:=by rw[vm];unfold Qf;split<;>exact hqd
     have hseen:∀y∈(es.filter (·.1==tupleKeyHash knd k)).toList.map (·.2),∃k b,y= .ref b/\IsTupleKey knd s.heap k b:=by intro y hy;refine aO (List.mem_map.mp hy) fun p0_ hq e2_=>?_;obtain⟨c',y'⟩:=p0_;subst e2_;have hq':(c',y')∈es:=(Array.mem_filter.mp (Array.mem_toList_iff.mp hq)).1;obtain⟨n',hn'⟩:=Array.getElem?_of_mem hq';refine dB (hE _ _ _ hn') fun k2 b2 _ hb2 hb3=>?_;exact⟨k2,b2,hb2,hb3⟩
     split
     all_goals try(refine wpAny_bind (JC hk _ hseen ?_);simp only[Bool.false_eq_true,if_false])
     all_goals
      rw[hei]
      dsimp only
      refine wpAny_bind (wpAny_holding (wpAny_eqBool_tuple hu hck hk ?_));refine wpAny_bind (wpAny_setState_of ho hd T.fits ?_)
      dsimp only
      rw[Bool.true_and]
      split
      ·rename_i hdec
       have hkk:k'=k:=of_decide_eq_true hdec;subst hkk;exact wpAny_pure (h1 ⟨i,hil,c,hei,hck⟩)
      ·rename_i hdec
       have hkk:k'≠k:=fun z=>hdec (decide_eq_true z);rw[hsame]
       dsimp only
       rw[if_pos rfl,hslot]
       dsimp only
       rw[hei]
       dsimp only
       refine wpAny_bind (wpAny_isSame_ref_self ?_);refine wpAny_bind (wpAny_pure ?_);simp only[if_true];have hll:l2.length<l.length:=by rw[hl12,List.length_append,List.length_cons];omega
       refine ih l2 (some (t.advance q)) fuel (by omega) hw2 hdq (by omega) (by omega) (fun⟨i',hi',hx⟩=>h1 ⟨i',by rw[hl12];exact List.mem_append_right _ (List.mem_cons_of_mem _ hi'),hx⟩) (fun hx=>h2 fun i' hi' c' hc' hkc=>?_);rw[hl12] at hi';rcases List.mem_append.mp hi' with hi' | hi'
       ·refine hno i' hi' ?_;rw[hc'];rfl
       ·rcases List.mem_cons.mp hi' with rfl | hi'
        ·rw[hei] at hc';have hcc:c=c':=Value.ref.inj (congrArg Prod.snd (Option.some.inj hc'));rw[<-hcc] at hkc;exact hkk (hck.inj hkc)
        ·exact hx i' hi' c' hc' hkc
    ·rename_i x hm
     exact(hm _ hp).elim
end
end STb
namespace STb
open PySem PySem.SetTable
section
variable{prog:Program}{w:World}{K:Type}[DecidableEq K]{knd:KeyKind prog w K}{A:Around}{E:Value->Shared->Prop}{s:Shared}
noncomputable def jb(σ:List (List K))(k:List K):List (List K):=if k∈σ then σ else σ++[k]
noncomputable def SetT(knd:KeyKind prog w K)(h:Heap)(a:Addr)(ks:List (List K)):Prop:=
 ∃o es ep t,h.get? a=some o/\o.ExactSet/\o.data= .set es ep t/\Tab es t/\wU knd h es/\es.size=ks.length/\
  ∀k,k∈ks↔∃(i:Nat)(c:Addr),es[i]? =some (tupleKeyHash knd k,.ref c)/\IsTupleKey knd h k c
theorem IsTupleKey.kept {h h':Heap} {k:List K} {b:Addr} (x:IsTupleKey knd h k b) (q:∀o,h.get? b=some o->h'.get? b=some o):IsTupleKey knd h' k b:=by refine jn x fun o items n ho hc hd hi=>?_;exact⟨o,items,n,q o ho,hc,hd,hi⟩
theorem IsTupleKey.ne {h:Heap} {k:List K} {a b:Addr} {o:Obj} {es ep t} (x:IsTupleKey knd h k b) (ho:h.get? a=some o) (hd:o.data= .set es ep t):b≠a:=by rintro rfl;refine jn x fun o' items n ho' _ hd' _=>?_;rw[ho] at ho';cases ho';rw[hd] at hd';cases hd'
theorem Jq{k:List K}{a:Addr}{Q:Bool->Shared->Prop}(hk:IsTupleKey knd s.heap k a)(h:∀b,Q b s):wpAny (model prog w) A (hashByValue 8 (.ref a)) Q E s:=by
 have hT:=hk.typeIs;refine jn hk fun o items n ho _ hd hi=>?_;unfold hashByValue;refine wpAny_bind (wpAny_specialOf hT F.slot_tuple_hash.lookup ?_);show wpAny _ _ (seqItems? (.ref a)>>=_) _ _ s;refine wpAny_bind (wpAny_seqItems ho hd ?_);refine wpAny_bind ?_;show wpAny _ _ (forIn items _ _) _ _ s;rw[<-Array.forIn_toList];refine wpAny_forIn_list _ (fun rest r s'=>r.1=none/\s'=s/\∀v∈rest,carriedByValue v=true) _ ?_ ?_ _ _ ⟨Z,Z,hi.byValue⟩
 ·rintro v rest r s' ⟨hr,rfl,hall⟩
  have hv:∃q,hashByValue 7 v=pure q:=by
   have:=hall v List.mem_cons_self;cases v with
   | ref a=>simp[carriedByValue] at this
   | _=>first | exact⟨_,Z⟩ | exact⟨_,by unfold hashByValue;rfl⟩
  obtain⟨q,hv⟩:=hv;rw[hv];refine wpAny_bind (wpAny_pure ?_)
  split
  ·refine wpAny_pure ?_;exact wpAny_pure (h _)
  ·exact wpAny_pure ⟨Z,Z,fun u hu'=>hall u (List.mem_cons_of_mem _ hu')⟩
 ·rintro⟨r1,r2⟩ s' ⟨hr,rfl,_⟩;simp only at hr;subst hr;exact wpAny_pure (h _)
theorem O1{a:Addr}{o:Obj}{es:Array (Int×Value)}{ep:Nat}{t:SetTable}{Q:Unit->Shared->Prop}(ho:s.heap.get? a=some o)(hd:o.data= .set es ep t)(T:Tab0 es t)(hz:es.size<=18)(hf:t.fits es.size=true)(wanted:Nat)(hw:sizeAbove wanted=32)(h:∀es' t',List.Perm es'.toList es.toList->es'.size=es.size->Tab es' t'->Q () {s with heap:=s.heap.update a (Obj.putSet es' t')}):
  wpAny (model prog w) A (setRelay a wanted) Q E s:=by
 refine yS (Gk (t:=t) hz wanted hw) fun t' order hrel hsz hperm T' _=>?_;unfold setRelay;refine wpAny_bind (wpAny_setState_of ho hd hf ?_)
 dsimp only
 rw[hw,if_neg (by rw[sizeLine_eq];decide),hrel];have hif:((order.filterMap (es[·]?)).size !=es.size)=false:=by rw[hsz];simp
 refine wpAny_bind ?_;show wpAny _ _ (if((order.filterMap (es[·]?)).size !=es.size)=true then _ else pure (order.filterMap (es[·]?),t')) _ _ _;rw[hif];simp only[Bool.false_eq_true,if_false];refine wpAny_pure ?_;exact wpAny_storeSet_of ho hd (h _ _ hperm hsz T') (by rw[hsz,sizeLine_eq];omega)
theorem wU.kept {h h':Heap} {es:Array (Int×Value)} {a:Addr} {o:Obj} {es0 ep t} (ho:h.get? a=some o) (hd:o.data= .set es0 ep t) (hs:Heap.SameBut a h h') (x:wU knd h es):wU knd h' es:=fun i c v hi=>by refine dB (x i c v hi) fun k b e1 e2 hb=>?_;exact⟨k,b,e1,e2,IsTupleKey.kept hb fun o' ho'=>by rw[hs.2 b (IsTupleKey.ne hb ho hd)];exact ho'⟩
theorem fY{α:Type}{xs:Array α}{x:α}:(∃i:Nat,xs[i]? =some x)↔x∈xs.toList:=by
 constructor
 ·rintro⟨i,h⟩;rw[<-Array.getElem?_toList] at h;exact List.mem_of_getElem? h
 ·intro h;obtain⟨i,hi⟩:=List.getElem?_of_mem h;exact⟨i,by rw[<-Array.getElem?_toList];exact hi⟩
theorem wU.perm {h:Heap} {es es':Array (Int×Value)} (p:List.Perm es'.toList es.toList) (x:wU knd h es):wU knd h es':=fun i c v hi=>by obtain⟨j,hj⟩:=fY.mpr (p.mem_iff.mp (fY.mp ⟨i,hi⟩));exact x j c v hj
theorem add{a b:Addr}{ks:List (List K)}{k:List K}{Q:Bool->Shared->Prop}(hu:A.units<cLine)(hS:SetT knd s.heap a ks)(hk:IsTupleKey knd s.heap k b)(hz:ks.length<18)(h:∀h' r,Heap.SameBut a s.heap h'->SetT knd h' a (jb ks k)->Q r {s with heap:=h'}):
  wpAny (model prog w) A (setAddHashed a (.ref b) (tupleKeyHash knd k)) Q E s:=by
 refine dG hS fun o es ep t ho hex hd T p8_=>?_;obtain⟨hE,hn,hm⟩:=p8_;unfold setAddHashed setAddHashedIn;refine wpAny_holding (wpAny_bind (wpAny_setState_of ho hd T.fits ?_))
 dsimp only
 have hbs:byScan (.ref b) es=false:=by unfold byScan;simp[Value.scannable]
 rw[hbs];simp only[Bool.false_eq_true,if_false];unfold setSearch;refine gP (T.way (tupleKeyHash knd k)) fun l e hw hl=>?_;have ht460:10 * turns t.mask<=460:=by rcases T.m with z | z<;>rw[z]<;>decide
 refine wpAny_bind (search hu ho hd T hE hk 1000 l none 100000 (by omega) hw Z (by omega) hl (fun⟨i,hi,c,hc,hkc⟩=>?_) (fun hno=>?_))
 ·dsimp only
  refine wpAny_pure ?_;have hin:k∈ks:=(hm k).mpr ⟨i,c,hc,hkc⟩
  have:=h s.heap false (Heap.SameBut.refl a s.heap) (by unfold jb;rw[if_pos hin];exact⟨o,es,ep,t,ho,hex,hd,T,hE,hn,hm⟩)
  exact this
 ·dsimp only
  have hnin:k∉ks:=fun hin=>by refine gP ((hm k).mp hin) fun i c hc hkc=>?_;exact hno i (T.reach i _ _ hc _ _ hw) c hc hkc
  refine wpAny_bind (wpAny_setState_of ho hd T.fits ?_)
  dsimp only
  rw[Nu T]
  dsimp only
  refine wj (vI T.ris e) fun b1 _ _=>?_;have b1':below t.place e<=es.size:=by rw[<-T.sz];exact b1
  have T0:=T.put (x:= .ref b) hw;have hsz:(insertAt es (below t.place e) (tupleKeyHash knd k,Value.ref b)).size=es.size+1:=jr b1';have hperm:=SetTable.insertAt_perm es (below t.place e) (tupleKeyHash knd k,Value.ref b);rw[Array.toList_push] at hperm
  have hfit0:({t with place:=insertAt t.place (below t.place e) e}:SetTable).fits (es.size+1)=true:=by unfold SetTable.fits SetTable.fill;simp only[T.dm,jr b1,T.sz];have:=T.room;simp;omega
  generalize hes1:insertAt es (below t.place e) (tupleKeyHash knd k,Value.ref b)=es1 at T0 hsz hperm
  have hE1:wU knd s.heap es1:=fun i c v hi=>by
   rcases List.mem_append.mp (hperm.mem_iff.mp (fY.mp ⟨i,hi⟩)) with q | q
   ·obtain⟨j,hj⟩:=fY.mpr q;exact hE j c v hj
   ·rw[List.mem_singleton] at q;cases q;exact⟨k,b,Z,Z,hk⟩
  have hm1:∀k',k'∈jb ks k↔∃(i:Nat)(c:Addr),es1[i]? =some (tupleKeyHash knd k',.ref c)/\IsTupleKey knd s.heap k' c:=by
   intro k';unfold jb;rw[if_neg hnin,List.mem_append,List.mem_singleton,hm k'];constructor
   ·rintro(⟨i,c,hc,hkc⟩ | rfl)
    ·obtain⟨j,hj⟩:=fY.mpr (hperm.mem_iff.mpr (List.mem_append_left _ (fY.mp ⟨i,hc⟩)));exact⟨j,c,hj,hkc⟩
    ·obtain⟨j,hj⟩:=fY.mpr (hperm.mem_iff.mpr (List.mem_append_right _ List.mem_cons_self));exact⟨j,b,hj,hk⟩
   ·rintro⟨i,c,hc,hkc⟩;rcases List.mem_append.mp (hperm.mem_iff.mp (fY.mp ⟨i,hc⟩)) with q | q
    ·obtain⟨j,hj⟩:=fY.mpr q;exact .inl ⟨j,c,hj,hkc⟩
    ·rw[List.mem_singleton] at q;have:c=b:=Value.ref.inj (congrArg Prod.snd q);subst this;exact .inr (hkc.inj hk)
  have hdl:(jb ks k).length=es1.size:=by unfold jb;rw[if_neg hnin,hsz,hn];simp
  have hfin:∀(pl:Bool),wpAny (model prog w) A (do
    storeSet a es1 {t with place:=insertAt t.place (below t.place e) e,plain:=pl}
    if(!false&&({t with place:=insertAt t.place (below t.place e) e,plain:=pl}:SetTable).tooFull)=true then do
     setRelay a (SetTable.grown (es.size+1))
     pure true
    else pure true) Q E s:=by
   intro pl;have T1:Tab0 es1 {t with place:=insertAt t.place (below t.place e) e,plain:=pl}:=⟨T0.sz,T0.dm,T0.ris,T0.le,T0.m,T0.reach⟩;have hf1:({t with place:=insertAt t.place (below t.place e) e,plain:=pl}:SetTable).fits es1.size=true:=by rw[hsz];exact hfit0
   refine wpAny_bind (wpAny_storeSet_of ho hd ?_ (by rw[hsz,sizeLine_eq,hn];omega));have hsb1:=Heap.SameBut.update s.heap a (Obj.putSet es1 {t with place:=insertAt t.place (below t.place e) e,plain:=pl})
   have hg:(s.heap.update a (Obj.putSet es1 {t with place:=insertAt t.place (below t.place e) e,plain:=pl})).get? a=some {o with data:= .set es1 (ep+1) {t with place:=insertAt t.place (below t.place e) e,plain:=pl}}:=by have:=Heap.get?_update_self (Obj.putSet es1 {t with place:=insertAt t.place (below t.place e) e,plain:=pl}) ho (by rw[putSet_of _ _ hd];rfl);rw[putSet_of _ _ hd] at this;exact this
   have hfill:({t with place:=insertAt t.place (below t.place e) e,plain:=pl}:SetTable).fill=es.size+1:=by unfold SetTable.fill;simp only[T.dm,jr b1,T.sz];rfl
   have hk1:∀k' c,IsTupleKey knd s.heap k' c->∀h',Heap.SameBut a s.heap h'->IsTupleKey knd h' k' c:=fun k' c hc h' hs=>IsTupleKey.kept hc fun o' ho'=>by rw[hs.2 c (IsTupleKey.ne hc ho hd)];exact ho'
   have hback:∀k' c,∀h',Heap.SameBut a s.heap h'->c≠a->IsTupleKey knd h' k' c->IsTupleKey knd s.heap k' c:=fun k' c h' hs hne hc=>IsTupleKey.kept hc fun o' ho'=>by rw[hs.2 c hne] at ho';exact ho'
   have hmk:∀(es2:Array (Int×Value))(h':Heap),List.Perm es2.toList es1.toList->Heap.SameBut a s.heap h'->∀k',k'∈jb ks k↔∃(i:Nat)(c:Addr),es2[i]? =some (tupleKeyHash knd k',.ref c)/\IsTupleKey knd h' k' c:=by
    intro es2 h' hp hs k';rw[hm1 k'];constructor
    ·rintro⟨i,c,hc,hkc⟩;obtain⟨j,hj⟩:=fY.mpr (hp.mem_iff.mpr (fY.mp ⟨i,hc⟩));exact⟨j,c,hj,hk1 _ _ hkc _ hs⟩
    ·rintro⟨i,c,hc,hkc⟩;obtain⟨j,hj⟩:=fY.mpr (hp.mem_iff.mp (fY.mp ⟨i,hc⟩));refine dB (hE1 _ _ _ hj) fun k2 b2 _ e2 hb2=>?_;have:c=b2:=Value.ref.inj e2;subst this;exact⟨j,c,hj,hback _ _ _ hs (IsTupleKey.ne hb2 ho hd) hkc⟩
   split
   ·rename_i hfull
    have hfull':(es.size+1) * 5≥t.mask * 3:=by simp only[Bool.not_false,Bool.true_and] at hfull;unfold SetTable.tooFull at hfull;rw[hfill] at hfull;simpa using hfull
    have hsz5:es.size+1=5:=by
     have:=T.room;rcases T.m with z | z
     ·rw[z] at this hfull';omega
     ·rw[z] at this hfull';omega
    refine wpAny_bind (O1 hg Z T1 (by omega) hf1 _ (by rw[hsz5];decide) fun es' t' hp' hs' T'=>?_);refine wpAny_pure ?_;have hsb2:=hsb1.trans (Heap.SameBut.update _ a (Obj.putSet es' t'));refine h _ true hsb2 ?_
    have hg2:((s.heap.update a (Obj.putSet es1 {t with place:=insertAt t.place (below t.place e) e,plain:=pl})).update a (Obj.putSet es' t')).get? a=some {o with data:= .set es' (ep+1+1) t'}:=by have:=Heap.get?_update_self (Obj.putSet es' t') hg (by rw[putSet_of _ _ rfl];rfl);rw[putSet_of _ _ rfl] at this;exact this
    exact⟨_,es',ep+1+1,t',hg2,hex,Z,T',(wU.perm hp' hE1).kept ho hd hsb2,by rw[hdl,hs'],hmk es' _ hp' hsb2⟩
   ·rename_i hfull
    have hfull':¬(es.size+1) * 5≥t.mask * 3:=by simp only[Bool.not_false,Bool.true_and] at hfull;unfold SetTable.tooFull at hfull;rw[hfill] at hfull;simpa using hfull
    refine wpAny_pure (h _ true hsb1 ?_);exact⟨_,es1,ep+1,_,hg,hex,Z,T1.tab (by rw[hsz];show(es.size+1) * 5<t.mask * 3;omega),hE1.kept ho hd hsb1,hdl.symm,hmk es1 _ .rfl hsb1⟩
  split
  ·refine wpAny_bind (Jq hk fun q=>?_);cases q
   ·exact hfin false
   ·exact hfin t.plain
  ·refine wpAny_bind (wpAny_pure ?_);exact hfin t.plain
end
end STb
namespace STb
open PySem PySem.SetTable PySem.Spec PyProof.Rows
noncomputable def mV{K:Type}[DecidableEq K](key:Nat->List K):Nat->List (List K)
 | 0=>[]
 | i+1=>jb (mV key i) (key i)
theorem qt{K:Type}[DecidableEq K](key:Nat->List K):∀i,(mV key i).length<=i
 | 0=>Nat.le_refl _
 | i+1=>by
  have:=qt key i;show(jb _ _).length<=_;unfold jb
  split
  ·omega
  ·rw[List.length_append,List.length_singleton];omega
noncomputable abbrev fQ(led:Bool):Obj:=
 {cls:= .type "set",dict:=none,data:= .set #[] 0 (.fresh 0 0 led)}
section
variable{prog:Program}{w:World}{K:Type}[DecidableEq K]{knd:KeyKind prog w K}{A:Around}
theorem SetT.kept {h h':Heap} {a:Addr} {ks:List (List K)} (hS:SetT knd h a ks) (q:∀o,h.get? a=some o->h'.get? a=some o)
  (ht:∀k c,IsTupleKey knd h k c->∀o,h.get? c=some o->h'.get? c=some o):SetT knd h' a ks:=by
 refine dG hS fun o es ep t ho hex hd T p8_=>?_;obtain⟨hE,hn,hm⟩:=p8_;refine⟨o,es,ep,t,q o ho,hex,hd,T,fun i c v hi=>?_,hn,fun k=>(hm k).trans ⟨fun⟨i,c,a1,a2⟩=>⟨i,c,a1,STb.IsTupleKey.kept a2 (ht k c a2)⟩,fun⟨i,c,a1,a2⟩=>⟨i,c,a1,?_⟩⟩⟩
 ·refine dB (hE i c v hi) fun k b e1 e2 hb=>?_;exact⟨k,b,e1,e2,STb.IsTupleKey.kept hb (ht k b hb)⟩
 ·refine dB (hE i _ _ a1) fun k' b _ e2 hb=>?_;have:c=b:=Value.ref.inj e2;subst this;have:=(STb.IsTupleKey.kept hb (ht k' c hb)).inj a2;rw[<-this];exact hb
theorem JF{R:Result->Shared->Prop}{I S:Addr}{fp wr:List Addr}{G:Array GenState->Array GenState->Prop}{n:Nat}{P:Nat->Value->Prop}{St:Nat->Shared->Prop}(W:WalksS prog w A.in1 I fp wr G n P St)(hSf:S∉fp)(hu:A.in1.units<cLine)(key:Nat->List K)(hn:n<=18)(hwr:∀i s,St i s->∀b∈wr,∀k,¬IsTupleKey knd s.heap k b):
  ∀(k i:Nat)(s:Shared),n - i=k->i<=n->St i s->SetT knd s.heap S (mV key i)->(∀j v,P j v->∃b,v= .ref b/\IsTupleKey knd s.heap (key j) b)->
   (∀s',Moved (S::wr) G s s'->SetT knd s'.heap S (mV key n)->R (.ok (.ret .none)) s')->
   codeAny (model prog w) A (.builtin "set.update.loop" ⟨[.ref S,.ref I],[]⟩) R s:=by
 have hSw:S∉wr:=fun q=>hSf (W.sub _ q);have up:∀b∈wr,b∈S::wr:=fun b q=>List.mem_cons_of_mem _ q;intro k;induction k with
 | zero=>
  intro i s hk hi hst hS hP hR;have e:i=n:=by omega
  subst e;refine codeAny_builtin F.entry_set_update_loop ?_;rw[Around.under_plainId F.plain_set_update_loop _];refine wpAny_bind (W.done s _ _ hst fun s' hm=>?_);exact wpAny_pure (hR s' (hm.mono up) (hS.kept (fun o=>hm.heap S o hSw) fun k c hc o=>hm.heap c o fun q=>hwr i s hst c q k hc))
 | succ k ih=>
  intro i s hk hi hst hS hP hR;have hlt:i<n:=by omega
  refine codeAny_builtin F.entry_set_update_loop ?_;rw[Around.under_plainId F.plain_set_update_loop _];refine wpAny_bind (W.item i s _ _ hlt hst fun v s' hv hst' hm=>?_);refine aO (hP i v hv) fun b e1_ hb=>?_;subst e1_;have stay:∀k c,IsTupleKey knd s.heap k c->∀o,s.heap.get? c=some o->s'.heap.get? c=some o:=fun k c hc o=>hm.heap c o fun q=>hwr i s hst c q k hc;have hS':SetT knd s'.heap S (mV key i):=hS.kept (fun o=>hm.heap S o hSw) stay;have hb':IsTupleKey knd s'.heap (key i) b:=STb.IsTupleKey.kept hb (stay _ _ hb);refine wpAny_bind (wpAny_holding ?_);unfold setAdd;refine wpAny_holding (wpAny_bind (wpAny_pyHash_tuple hu hb' ?_));refine STb.add (s:={s' with toks:=s'.toks+((key i).length+1)}) hu hS' hb' (by have:=qt key i;omega) fun h' r hsb hS2=>?_;refine jq hS' fun oS _ _ _ hoS _ hdS _=>?_
  have tk:∀k c,IsTupleKey knd s.heap k c->IsTupleKey knd h' k c:=fun k c hc=>by have h1:=STb.IsTupleKey.kept hc (stay k c hc);exact STb.IsTupleKey.kept h1 fun o ho=>by rw[hsb.2 c (STb.IsTupleKey.ne h1 hoS hdS)];exact ho
  refine wpAny_pure ⟨plainId_quiet F.plain_set_update_loop _,ih (i+1) _ (by omega) hlt
   (W.frame _ s' _ _ hst' (Nat.le_add_right _ _) fun b hb o e=>?_) hS2 (fun j v hv=>?_) fun s'' hm'' hS''=>?_⟩
  ·rw[hsb.2 b (fun q:b=S=>hSf (q▸hb))];exact e
  ·refine aO (hP j v hv) fun b e hb=>?_;exact⟨b,e,tk _ _ hb⟩
  ·refine hR s'' (Moved.trans W.gtrans ((hm.mono up).then_heap (Nat.le_add_right _ _) fun b o hb e=>?_) hm'') hS'';rw[hsb.2 b (fun q:b=S=>hb (q▸List.mem_cons_self))];exact e
end
end STb
namespace STb
open PySem PySem.SetTable PySem.Spec PyProof.Rows
section
variable{prog:Program}{w:World}{K:Type}[DecidableEq K]{knd:KeyKind prog w K}{A:Around}{E:Value->Shared->Prop}{s:Shared}
set_option maxHeartbeats 3200000 in
theorem CV{l:Addr}{items:Array Value}{key:Nat->List K}{Q:Value->Shared->Prop}(hh:A.handled=none)(hu:A.units+8<cLine)(hl:s.heap.IsList l items)(hn:items.size<=18)(hi:∀(j:Nat) v,items[j]? =some v->∃b,v= .ref b/\IsTupleKey knd s.heap (key j) b)(h:∀(h':Heap)(tk:Nat),SetT knd h' s.heap.objs.size (mV key items.size)->(∀b o,b<s.heap.objs.size->s.heap.get? b=some o->h'.get? b=some o)->
   Q (.ref s.heap.objs.size) {s with heap:=h',toks:=tk}):
  wpAny (model prog w) A (call (.type "set") [.ref l]) Q E s:=by
 refine zb F.called_set.mro fun c tl hmro=>?_;have hmade:=F.called_set.made;have hsub:=F.called_set.sub;have h1:=F.called_set.notType;have h2:=F.called_set.canCreate;have hct:=F.typeCall_set_1 (.ref l);refine wpAny_call (codeAny_of_tree ?_);show wpAny _ _ (callAny (.type "set") _) _ _ _;refine wpAny_pure ⟨Code.quiet_builtin _ (by decide+kernel),codeAny_builtin F.entry_type_call ?_⟩;rw[Around.under_plain (weight_type_call_type "set" [.ref l] []) rfl]
 repeat(any_goals (first | assumption | wp_step))
 have new:=code_set_new_1 (prog:=prog) (w:=w) (A:=A.in1) (s:=s) (E:=E) (.ref l)
  (Q₁:=fun x s₁=>∃led:Bool,x= .ref s.heap.objs.size/\s₁={s with heap:=s.heap.push (fQ led)}) fun led=>⟨led,Z,Z⟩
 refine codeAny_mono new fun r s₁ hr=>?_
 match r,hr with
 | .error e,hr=>exact hr
 | .ok (.ret x),hr=>
  refine aO hr fun led e1_ e2_=>?_;subst e1_;subst e2_;have hS:(s.heap.push (fQ led)).get? s.heap.objs.size=some (fQ led):=Heap.get?_push_size _ Z;have hT:Shared.TypeIs {s with heap:=s.heap.push (fQ led)} (.ref s.heap.objs.size) "set":=⟨_,hS,Z⟩;have hli:=F.called_set.init.lookup;have hbi:=F.called_set.init.bind (.ref s.heap.objs.size)
  repeat(any_goals (first | assumption | wp_step))
  refine codeAny_mono (codeAny_call_builtin (R:=wants (fun r s₂=>r= .none/\∃h' tk,s₂={s with heap:=h',toks:=tk}/\SetT knd h' s.heap.objs.size (mV key items.size)/\
    (∀b o,b<s.heap.objs.size->s.heap.get? b=some o->h'.get? b=some o)) E) F.called_set.init.plain F.entry_set_init
   (check_set_init_1 hT ?_)) fun r₂ s₂ hr₂=>?_
  ·refine uJ hl fun p0_ hol hcl nl hdl=>?_;obtain⟨_,odict,_,oslots⟩:=p0_
   dsimp only at hcl hdl
   subst hcl hdl
   have hol':(s.heap.push (fQ led)).get? l=some {cls:= .type "list",dict:=odict,data:= .seq items nl,slots:=oslots}:=
    Heap.get?_push_of_some _ hol
   have hl1:(s.heap.push (fQ led)).IsList l items:=⟨_,hol',Z,nl,Z⟩;have hsls:=F.sub_list_set;have hslf:=F.sub_list_frozenset;have hne:(Value.type "list"==Value.type "dict")=false:=by decide
   unfold Builtin.«set.__init__»;unfold noKeywords;unfold Builtin.Frozenset.updateFrom;generalize hPI:pyIter=PI
   wp_walk
   subst hPI;refine wpAny_pyIter_list hl1 ?_;refine wpAny_bind (wpAny_runValue ?_);have hlS:l<s.heap.objs.size:=Heap.lt_size hol;have hsz:(s.heap.push (fQ led)).objs.size=s.heap.objs.size+1:=Heap.size_push _ _
   have hneI:l≠(s.heap.push (fQ led)).objs.size:=by rw[hsz];exact Nat.ne_of_lt (Nat.lt_succ_of_lt hlS)
   have hSf:s.heap.objs.size∉[(s.heap.push (fQ led)).objs.size,l]:=by
    rw[hsz];intro q;rcases List.mem_cons.mp q with q | q
    ·exact absurd q (Nat.ne_of_lt (Nat.lt_succ_self _))
    ·exact absurd (List.mem_singleton.mp q) (Nat.ne_of_gt hlS)
   have W:=(Walks.list (prog:=prog) (w:=w) (A:=A.in1.in1.in1) (by simp[hh]) _ l hneI items).toS;refine JF (knd:=knd) W hSf (by simp;omega) key hn ?wr (items.size - 0) 0 _ (by omega) (Nat.zero_le _) ⟨⟨_,Heap.get?_push_size _ Z,Z,Z⟩,hl1.push _⟩ ?S0 ?P0 ?R0
   case wr=>
    intro i s0 hst b hb k hk;have hbI:=List.mem_singleton.mp hb;subst hbI;refine bL hst.1 fun oI hoI hcI hdI=>?_;refine oR hk fun o2 it2 n2 ho2 hc2 _=>?_;rw[hoI] at ho2;cases ho2;rw[hcI] at hc2;exact absurd hc2 (by decide)
   case S0=>
    have hg:((s.heap.push (fQ led)).push {cls:= .type "list_iterator",data:= .fields #[.ref l,.int 0 0]}).get? s.heap.objs.size=some (fQ led):=Heap.get?_push_of_some _ hS;exact⟨_,#[],0,_,hg,⟨Z,Z,Z⟩,Z,Gh led,fun i c v hi=>(by cases hi),Z,fun k=>⟨fun q=>(by cases q),fun⟨i,c,q,_⟩=>(by cases q)⟩⟩
   case P0=>
    intro j v hv;refine aO (hi j v hv) fun b e hb=>?_;exact⟨b,e,STb.IsTupleKey.kept hb fun o ho=>Heap.get?_push_of_some _ (Heap.get?_push_of_some _ ho)⟩
   case R0=>
    intro s' hm hS';obtain⟨h',g',d',tk',os'⟩:=s';have e1:g'=s.gens:=hm.gens;have e2:d'=s.drawn:=hm.drawn;have e3:os'=s.os:=hm.os;subst e1 e2 e3;show wpAny _ _ _ _ _ _;refine wpAny_pure ?_;refine wpAny_pure ⟨Z,h',tk',Z,hS',fun b o hb e=>?_⟩;refine hm.heap b o (fun q=>?_) (Heap.get?_push_of_some _ (Heap.get?_push_of_some _ e));rcases List.mem_cons.mp q with q | q
    ·exact Nat.ne_of_lt hb q
    ·have:=List.mem_singleton.mp q;rw[hsz] at this;exact Nat.ne_of_lt (Nat.lt_succ_of_lt hb) this
  ·match r₂,hr₂ with
   | .error e,hr₂=>exact hr₂
   | .ok (.ret r),hr₂=>
    refine zG hr₂ fun e0_ h' tk e3_ hS' hk'=>?_;subst e0_;subst e3_
    repeat(any_goals (first | assumption | wp_step))
    exact h _ _ hS' hk'
end
end STb
namespace L2
open PySem PySem.Spec PyProof.Rows
noncomputable def Ms(a:Addr)(n:Nat):HO:= .ext fun h=>∃o es ep t,h.get? a=some o/\o.ExactSet/\o.data= .set es ep t/\t.fits es.size=true/\es.size=n/\n<=18
inductive m9(H:Hp):List V->List (List Int)->Prop
 | nil:m9 H [] []
 | cons {b:Addr} {k:List Int} {vs:List V} {ks:List (List Int)}:H b=some (.tup (k.map .int))->m9 H vs ks->m9 H (.ref b::vs) (k::ks)
theorem m9.length {H:Hp} {vs:List V} {ks:List (List Int)} (t:m9 H vs ks):vs.length=ks.length:=by
 induction t with
 | nil=>rfl
 | cons _ _ ih=>simp[ih]
theorem m9.at {H:Hp} {vs:List V} {ks:List (List Int)} (t:m9 H vs ks):∀(j:Nat)(v:V),vs[j]? =some v->∃b,v= .ref b/\H b=some (.tup ((ks.getD j []).map .int)):=by
 induction t with
 | nil=>intro j v h;cases h
 | @cons b k vs ks h _ ih=>
  intro j v hv;cases j with
  | zero=>cases hv;exact⟨b,Z,h⟩
  | succ j=>exact ih j v hv
noncomputable def dd(ks:List (List Int)):List (List Int):=ks.foldl STb.jb []
theorem tD(ks:List (List Int)):∀i,i<=ks.length->STb.mV (fun j=>ks.getD j []) i=dd (ks.take i)
 | 0,_=>Z
 | i+1,h=>by
  show STb.jb _ _=_;rw[tD ks i (by omega)]
  have hk:ks[i]? =some (ks.getD i []):=by rw[List.getElem?_eq_getElem (by omega),List.getD_eq_getElem?_getD,List.getElem?_eq_getElem (by omega)];rfl
  unfold dd;rw[List.take_add_one,hk,List.foldl_append];rfl
theorem xV{P:Program}{w:World}:∀{ks:List Int}{its:List Value},Vals (ks.map V.int) its->ItemsAre (intKind P w) ks its
 | [],_,r=>by cases r;exact .nil
 | k::ks,_,r=>by
  cases r with
  | cons h t=>
   obtain⟨t',rfl⟩:=h;exact .cons (intKind_is _ _ _ _) (xV t)
theorem Gg{X:Cx}(hc:X.calm=true)(hu:X.A.units+8<cLine):iR X (.type "set") (fun xs H Q=>∃p ys ks,xs=[.ref p]/\aP X.K H p ys/\ys.length<=18/\m9 H ys ks/\
  ∀l,H l=none->Q (.ref l) (upd H l (Ms l (dd ks).length))):=by
 intro pins s σ H xs us Q I r h;refine kh h fun p ys ks e3_ hq h18 ht q=>?_;subst e3_;refine aO (vals1 r) fun u e1_ rx=>?_;subst e1_;cases rx;refine bL (I.list hq) fun its r' pl hz=>?_;have hlen:=r'.length;refine STb.CV (knd:=intKind X.prog X.w) (key:=fun j=>ks.getD j []) (I.ok.hd hc) hu pl.isList (by simp;omega) (fun j v hv=>?_) (fun h' tk hS kp=>?_)
 ·have hv':its[j]? =some v:=by simpa using hv
  cases hy:ys[j]? with
  | none=>rw[r'.none_of hy] at hv';cases hv'
  | some y=>
   refine aO (r'.get hy) fun u hu' ru=>?_;rw[hv'] at hu';cases hu';refine aO (ht.at j y hy) fun b e1_ hb=>?_;subst e1_;cases ru;refine FN (I.hok b _ hb) fun _ it2 r2 p3_=>?_;obtain⟨o2,ho2,hc2,n2,hd2⟩:=p3_;exact⟨b,Z,o2,it2.toArray,n2,ho2,hc2,hd2,by simpa using xV r2⟩
 ·have hl:(STb.mV (fun j=>ks.getD j []) its.toArray.size).length=(dd ks).length:=by
   have e:its.toArray.size=ks.length:=by rw[<-ht.length,hlen];simp
   rw[e,tD ks _ (Nat.le_refl _),List.take_length]
  have hn:H s.heap.objs.size=none:=I.hok.fresh (Nat.le_refl _);refine⟨.ref s.heap.objs.size,_,I.laid (t':=tk) (fun b o e=>kp b o (Heap.lt_size e) e) (Nat.le_refl _) ?_,Z,q _ hn⟩;refine dG hS fun o es ep t ho hex hd T p8_=>?_;obtain⟨_,hsz,_⟩:=p8_
  have h18':(dd ks).length<=18:=by
   rw[<-hl];have:=STb.qt (fun j=>ks.getD j []) its.toArray.size;have:its.toArray.size<=18:=by simp;omega
   omega
  refine⟨⟨o,es,ep,t,ho,hex,hd,T.fits,by rw[hsz,hl],h18'⟩,⟨o,ho⟩,?_⟩;rintro h1 h2 ⟨o',es',ep',t',ho',rest⟩ kk;exact⟨o',es',ep',t',kk _ ho',rest⟩
theorem Gu{X:Cx}:iR X (.builtin "len") (fun xs H Q=>∃p n,xs=[.ref p]/\H p=some (Ms p n)/\Q (.int n) H):=by intro pins s σ H xs us Q I r h;refine dB h fun p n e2_ hp q=>?_;subst e2_;refine aO (vals1 r) fun u e1_ rx=>?_;subst e1_;cases rx;obtain⟨⟨o,es,ep,t,ho,hex,hd,hf,hsz,h18⟩,_⟩:=I.hok p _ hp;exact call_len_set ho hex hd hf (by rw[hsz];omega) ⟨.int n,H,I.tok _,⟨s.toks+1,by rw[hsz]⟩,q⟩
theorem mH:∀(ks σ:List (List Int)),(ks.foldl STb.jb σ).length<=σ.length+ks.length/\((ks.foldl STb.jb σ).length=σ.length+ks.length↔ks.Nodup/\∀k∈ks,k∉σ)
 | [],σ=>⟨Nat.le_refl _,⟨fun _=>⟨List.nodup_nil,fun k h=>(by cases h)⟩,fun _=>Z⟩⟩
 | k::ks,σ=>by
  rw[List.foldl_cons,List.length_cons];by_cases h:k∈σ
  ·have e:STb.jb σ k=σ:=by unfold STb.jb;rw[if_pos h]
   rw[e];obtain⟨a,b⟩:=mH ks σ;refine⟨by omega,⟨fun q=>by omega,fun q=>absurd h (q.2 k List.mem_cons_self)⟩⟩
  ·have e:STb.jb σ k=σ++[k]:=by unfold STb.jb;rw[if_neg h]
   rw[e];obtain⟨a,b⟩:=mH ks (σ++[k]);rw[List.length_append,List.length_singleton] at a b;refine⟨by omega,?_⟩;rw[show σ.length+(ks.length+1)=σ.length+1+ks.length by omega,b,List.nodup_cons];constructor
   ·rintro⟨h1,h2⟩;refine⟨⟨fun q=>h2 k q (List.mem_append_right _ List.mem_cons_self),h1⟩,fun k' hk'=>?_⟩;rcases List.mem_cons.mp hk' with rfl | hk'
    ·exact h
    ·exact fun q=>h2 k' hk' (List.mem_append_left _ q)
   ·rintro⟨⟨h1,h2⟩,h3⟩;refine⟨h2,fun k' hk' q=>?_⟩;rcases List.mem_append.mp q with q | q
    ·exact h3 k' (List.mem_cons_of_mem _ hk') q
    ·rw[List.mem_singleton] at q;subst q;exact h1 hk'
theorem Ah(ks:List (List Int)):(dd ks).length=ks.length↔ks.Nodup:=by have:=(mH ks []).2;simp only[List.length_nil,Nat.zero_add] at this;rw[dd,this];exact⟨fun h=>h.1,fun h=>⟨h,fun k _ q=>(by cases q)⟩⟩
structure ym(P:Program)(w:World)(K:W.Frag)(mg:Str->Option Value)(base:Heap)(C:Addr)(k:Nat)(m:Str)(ps:List Str)(sp:Sp):Prop where
 ex:∃(f:Addr)(fd:FuncData),bD P w K mg base gG k f fd ps sp/\Meth K C m f/\Binds K fd ps []
structure wB(P:Program)(w:World)(K:W.Frag)(mg:Str->Option Value)(base:Heap)(C:Addr)(k:Nat)(m:Str)(ps:List Str)(sp:Sp):Prop where
 ex:∃(f:Addr)(fd:FuncData),bD P w K mg base (kj P w) k f fd ps sp/\Meth K C m f/\Binds K fd ps []
structure Ha(P:Program)(w:World)(K:W.Frag)(mg:Str->Option Value)(base:Heap)(C:Addr)(k:Nat)(x:Str)(ps:List Str)(sp:Sp):Prop where
 ex:∃(f:Addr)(fd:FuncData),bD P w K mg base (kj P w) k f fd ps sp/\Mk K C f/\mg x=some (.ref C)/\Binds K fd ps []
noncomputable def Nm(C:Addr)(m:Str)(sp:Sp)(R:St->XK)(ta:TE)(t:TA):TE:=fun σ H Q=>ta σ H fun x H1=>∃a dx fs,x= .ref a/\H1 a=some (.ins C dx fs)/\fs.lookup m=none/\
 t σ H1 fun vs H2=>sp (x::vs) H2 Q (R σ)
noncomputable def IK(C:Addr)(sp:Sp)(R:St->XK)(t:TA):TE:=fun σ H Q=>t σ H fun vs H1=>∀x dx,H1 x=none->H1 dx=none->dx≠x->
 sp (.ref x::vs) (upd (upd H1 dx (.own x)) x (.ins C dx [])) (fun v H2=>v= .non/\Q (.ref x) H2) (R σ)
section
variable{X:Cx}{k:Nat}{C:Addr}{m x:Str}{ps:List Str}{sp:Sp}{o e:Expr}{es:List Expr}{ta:TE}{t:TA}{p pos apos:Pos}{R:St->XK}
theorem fU{pl:Sem Bool}(he:PE X o ta)(c:GF X.K C)(D:ym X.prog X.w X.K X.mg X.base C k m ps sp)(hr:dD k X.A)(ht:eval (.Call (.Attribute o m apos) [] [] pos) X.env=(do
   let ov <-eval o X.env
   standAt apos.atName
   let(f,first) <-holding [ov] (getMethod ov m pl)
   callWith pos f first (backTo pos (starEach [] X.env)) (backToKw pos (keywordEach [] X.env))):=by rfl):
  PE X (.Call (.Attribute o m apos) [] [] pos) (Ly C m sp [] E0 ta nU):=by
 refine dB D.ex fun f fd F hm hb=>?_;exact JG he c hm F hr hb .nil JB ht
theorem Ko{f:Addr}{fd:FuncData}{pins:List (Addr×Obj)}{σ:St}{H:Hp}{s:Shared}{Q:VK}{us:List Value}{vs:List V}(F:bD X.prog X.w X.K X.mg X.base (kj X.prog X.w) k f fd ps sp)(hr:dD k X.A)(hb:Binds X.K fd ps [])(hx:lu (kj X.prog X.w) X R)(I:Inv X pins σ H s)(r:Vals vs us)(h:sp vs H Q (R σ)):wpAny (model X.prog X.w) X.A (call (.ref f) us) (EP X pins σ Q) X.xe s:=by
 have hl:us.length=ps.length:=by rw[<-r.length];exact F.len _ _ _ _ h
 have hb':=hb s us I.kIn (by rw[List.append_nil];exact hl);rw[List.append_nil] at hb';refine wpAny_call (codeAny_mono (F.run X.A X.stack s H ⟨us,[]⟩ us vs Q (R σ) hr I.env0 hb' r h) fun res s' hq=>?_);cases res with
 | error er=>exact hx pins σ H s er s' I hq
 | ok fl=>
  cases fl with
  | ret u=>exact I.after hq
  | _=>exact False.elim hq
theorem o5{pl:Sem Bool}(he:PE X o ta)(c:GF X.K C)(D:wB X.prog X.w X.K X.mg X.base C k m ps sp)(hr:dD k X.A)(hx:lu (kj X.prog X.w) X R)(ha:PA X (e::es) t)(hst:starEach (e::es) X.env=(false,eval e X.env)::starEach es X.env:=by rfl)(hpl:(backTo pos (starEach es X.env)).any (·.1)=false:=by rfl)(ht:eval (.Call (.Attribute o m apos) (e::es) [] pos) X.env=(do
   let ov <-eval o X.env
   standAt apos.atName
   let(f,first) <-holding [ov] (getMethod ov m pl)
   callWith pos f first (backTo pos (starEach (e::es) X.env)) (backToKw pos (keywordEach [] X.env))):=by rfl):
  PE X (.Call (.Attribute o m apos) (e::es) [] pos) (Nm C m sp R ta t):=by
 refine dB D.ex fun f fd F hm hb=>?_;intro pins s σ H Q I h;refine W.methodCall_KW (pl:=pl) (dF (he pins s σ H _ I h) fun u s1 ⟨x,H1,I1,rx,a,dx,fs,ex,ea,l,q⟩=>?_) ht;subst ex;obtain rfl:u=Value.ref a:=rx;refine uQ I1 ea c hm l ?_;refine W.callWith_K (first:=[.ref a]) (h₀:=X.base) I.ok.mod.kin hm.kp (dF (ha pos pins s1 σ H1 _ I1 q) fun us s2 ⟨vs,H2,I2,r,q2⟩=>⟨I2.kIn,?_⟩) hst hpl;exact Ko (us:= .ref a::us) (vs:= .ref a::vs) F hr hb hx I2 (.cons Z r) q2
theorem qG(D:Ha X.prog X.w X.K X.mg X.base C k x ps sp)(hr:dD (k+1) X.A)(hx:lu (kj X.prog X.w) X R)(hg:Gl X x)(ha:PA X (e::es) t)(hdb:(x==("__debug__":Str))=false:=by decide)(he:starEach (e::es) X.env=(false,eval e X.env)::starEach es X.env:=by rfl)(hpl:(backTo pos (starEach es X.env)).any (·.1)=false:=by rfl):
  PE X (.Call (.Name x p) (e::es) [] pos) (IK C sp R t):=by
 refine jG D.ex fun f fd F M hm hb=>?_;intro pins s0 σ H0 Q I0 h0;refine wpAny_Call_Name_kw (mQ I0 hg hm ?_ hdb);refine W.callWith_K (h₀:=X.base) I0.ok.mod.kin M.kp (dF (ha pos pins s0 σ H0 _ I0 h0) fun us s ⟨vs,H,I,r,h⟩=>⟨I.kIn,?_⟩) he hpl;have hq:=h (s.heap.objs.size+1) s.heap.objs.size (I.hok.fresh (Nat.le_succ _)) (I.hok.fresh (Nat.le_refl _)) (Nat.ne_of_lt (Nat.lt_succ_self _));have I2:=Inv.made (C:=C) I;have r2:Vals (V.ref (s.heap.objs.size+1)::vs) (Value.ref (s.heap.objs.size+1)::us):= .cons Z r
 have hl:(Value.ref (s.heap.objs.size+1)::us).length=ps.length:=by have e:=r2.length;rw[F.len _ _ _ _ hq] at e;exact e.symm
 have hb':=hb _ (Value.ref (s.heap.objs.size+1)::us) I2.kIn (by rw[List.append_nil];exact hl);rw[List.append_nil] at hb'
 refine wpAny_call (HB (f:=f) I.kIn M.makes M.init (beq_iff_eq.mp M.fn) (codeAny_mono (F.run _ X.stack _ _ ⟨Value.ref (s.heap.objs.size+1)::us,[]⟩ (Value.ref (s.heap.objs.size+1)::us) _ _ (R σ) (hr.make C us [])
  (I2.env0.make C us []) hb' r2 hq) fun r s' hq'=>?_))
 cases r with
 | error e=>exact hx pins σ _ _ e s' I2 hq'
 | ok fl=>
  cases fl with
  | ret u=>
   refine jG (I2.after hq') fun v H' I3 rv ev q3=>?_;subst ev;exact⟨rv,⟨V.ref (s.heap.objs.size+1),H',I3,Z,q3⟩⟩
  | _=>exact False.elim hq'
end
theorem Fw{J:It}{L:List V}{k:Nat}{te:TE}{D:Addr}{σ0:St}{H:Hp}{Fn:Hp->Prop}(Pr:V->Addr->Hp->Prop)(mono:∀x q H1 H2,(∀b o,H1 b=some o->b≠D->H2 b=some o)->Pr x q H1->Pr x q H2)(S:Src J L H)(hn:L.length<=sizeLine)(hD:H D=none)(he:∀x∈L,∀(H':Hp)(Q:VK),aC H H'->(∃ys,H' D=some (.lst ys))->(∀q H'',aC H' H''->Pr x q H''->Q (.ref q) H'')->te (σ0.set k (some x)) H' Q)(hd:∀(qs:List Addr) H',aC H H'->H' D=some (.lst (qs.map V.ref))->qs.length=L.length->(∀(i:Nat) x q,L[i]? =some x->qs[i]? =some q->Pr x q H')->Fn H'):
  ∃W:Nat->Nat->St->Hp->Prop,(∃m,W 0 m σ0 (upd H D (.lst [])))/\∀i m σ' H',W i m σ' H'->
   (J.stop i H'/\Fn H')\/(J.go i H'/\∃N:St->Hp->Prop,(∀σ2 H2,N σ2 H2->∃m',m'<m/\W (i+1) m' σ2 H2)/\∀x H2,J.yld i H' x H2->fK k x σ' H2 fun σ3 H3=>zW σ3 H3 fun b H4=>
    if b=true then te σ3 H4 fun v H5=>∃xs,H5 D=some (.lst xs)/\xs.length<sizeLine/\N σ3 (upd H5 D (.lst (xs++[v]))) else N σ3 H4):=by
 refine⟨fun i m σ' H'=>m=L.length - i/\i<=L.length/\(∀y,σ'.set k y=σ0.set k y)/\aC H H'/\∃qs:List Addr,H' D=some (.lst (qs.map V.ref))/\qs.length=i/\(∀(j:Nat) x q,L[j]? =some x->qs[j]? =some q->Pr x q H'),⟨L.length,Z,Nat.zero_le _,fun _=>Z,au hD,[],ak,Z,fun _ _ _ _ z=>nomatch z⟩,?_⟩;rintro i m σ' H' ⟨rfl,hi,hσ,sm,qs,hH,hl,pr⟩;by_cases hlt:i<L.length
 ·have hx:L[i]? =some L[i]:=by simp[hlt]
  obtain⟨go,yl⟩:=(S H' sm).1 i _ hx;refine .inr ⟨go,fun σ2 H2=>(∀y,σ2.set k y=σ0.set k y)/\aC H H2/\∃qs:List Addr,H2 D=some (.lst (qs.map V.ref))/\qs.length=i+1/\(∀(j:Nat) x q,L[j]? =some x->qs[j]? =some q->Pr x q H2),?_,?_⟩
  ·rintro σ2 H2 ⟨q1,q2,q3⟩;exact⟨L.length - (i+1),by omega,Z,hlt,q1,q2,q3⟩
  ·intro x H2 y;obtain⟨rfl,rfl⟩:=yl x H2 y;simp only[fK,zW,if_true];rw[hσ];have hm:L[i]∈L:=List.getElem_mem hlt;refine he _ hm H2 _ sm ⟨_,hH⟩ fun q H5 s5 hq=>⟨_,s5 D _ hH,by rw[List.length_map,hl];omega,fun y=>by rw[List.set_set],cz (sm.trans s5) hD,qs++[q],?_,?_,fun j x q' ex eq=>?_⟩
   ·rw[ak,List.map_append];rfl
   ·rw[List.length_append,hl];rfl
   ·refine mono x q' H5 _ (fun b o e hb=>by rw[aB hb];exact e) ?_;by_cases hj:j<qs.length
    ·rw[List.getElem?_append_left hj] at eq;exact mono x q' H2 _ (fun b o e _=>s5 b o e) (pr j x q' ex eq)
    ·rw[List.getElem?_append_right (by omega)] at eq;cases ej:j - qs.length with
     | zero=>
      rw[ej] at eq;cases eq;have:j=i:=by omega
      subst this;rw[hx] at ex;cases ex;exact hq
     | succ n=>rw[ej] at eq;cases eq
 ·have e:i=L.length:=by omega
  subst e;exact .inl ⟨(S H' sm).2,hd qs H' sm hH hl pr⟩
noncomputable def toV:Value->V
 | .none=> .non
 | .bool b=> .bl b
 | .int i _=> .int i
 | .str x _=> .str x
 | .bytes b _=> .byt b
 | .float b _=> .flt b
 | .ref a=> .ref a
 | .type n=> .ty n
 | _=> .non
theorem ul:∀{x:V}{u:Value},RelV x u->toV u=x
 | .non,_,r=>by cases r;rfl
 | .bl b,_,r=>by cases r;rfl
 | .int i,_,⟨t,e⟩=>by cases e;rfl
 | .str x,_,⟨t,e⟩=>by cases e;rfl
 | .byt b,_,⟨t,e⟩=>by cases e;rfl
 | .flt b,_,⟨t,e⟩=>by cases e;rfl
 | .ref a,_,r=>by cases r;rfl
 | .ty n,_,r=>by cases r;rfl
noncomputable def ut(K:W.Frag)(n:Nat):V->List V->Hp->VK->Prop:=fun x vs H Q=>∃(l:Addr)(xs:List V)(y:V)(be:V->Bool)(j:Nat)(z:V),x= .ref l/\vs=[y]/\H l=some (.lst xs)/\(∀z∈xs,Am K H n z y (be z))/\xs[j]? =some z/\be z=true/\(∀(i:Nat) z,i<j->xs[i]? =some z->be z=false)/\Q (.int (j:Int)) H
section
variable{X:Cx}
theorem oV(K:W.Frag)(hK:X.K=K)(n:Nat)(hn:n<=30)(hu:X.A.units+64<cLine):Qi X "list.index" (ut K n):=by
 subst hK;intro pins s σ H x vs v us Q I rx rv h;refine dZ h fun l xs y be j z e6_ p7_=>?_;subst e6_;obtain⟨rfl,hH,he,hz,hb,hno,q⟩:=p7_;cases rx;refine aO rv.one fun u e1_ ru=>?_;subst e1_;refine zG (I.lstM hH) fun zz its m r hl e=>?_;have hj:j<xs.length:=(List.getElem?_eq_some_iff.mp hz).1
 have at':∀(i:Nat)(hi:i<its.length),∃x,xs[i]? =some x/\toV its[i]=x:=fun i hi=>by have hx:xs[i]? =some (xs[i]'(by omega)):=List.getElem?_eq_getElem _;refine aO (r.get hx) fun w hw rw'=>?_;rw[List.getElem?_eq_getElem hi] at hw;cases hw;exact⟨_,hx,ul rw'⟩
 have hsl:sizeLine<=2 ^ 40:=by decide
 refine call_meets F.slot_list_index ⟨_,e,Z⟩ F.entry_list_index (F.args_list_index_2 _ _) (SeqAt.list_indexAt l its.toArray m none #[] u (fun w=>be (toV w)) j (by simpa[<-hl] using hj) (by omega) ?_ ?_) ⟨e,fun w hw=>?_,⟨.int _,H,I.tok _,⟨_,Z⟩,q⟩⟩
 ·refine aO (at' j (by omega)) fun x h1 h2=>?_;rw[hz] at h1;cases h1;show be (toV its[j])=true;rw[h2];exact hb
 ·intro i hi hlt;have hi':i<its.length:=by simpa using hi
  refine aO (at' i hi') fun x h1 h2=>?_;show be (toV its[i])=false;rw[h2];exact hno i x hlt h1
 ·have hw':w∈its:=by simpa using hw
  obtain⟨i,hi⟩:=List.mem_iff_getElem?.mp hw';have hil:i<its.length:=(List.getElem?_eq_some_iff.mp hi).1;have hx:xs[i]? =some (xs[i]'(by omega)):=List.getElem?_eq_getElem _;refine aO (r.get hx) fun w2 hw2 rw2=>?_;rw[hi] at hw2;cases hw2;have ev:=ul rw2;show SeqAt.EqAt X.A.in1 s w u (be (toV w));rw[ev];refine sW I n X.A.in1 ?_ _ _ _ _ _ (he _ (List.mem_of_getElem? hx)) rw2 ru;show X.A.units+1+n<cLine;omega
theorem mG(bt:Nat->Nat->Bool):∀n,argBest bt n<=n
 | 0=>Nat.le_refl _
 | n+1=>by
  unfold argBest
  split
  ·exact Nat.le_refl _
  ·exact Nat.le_succ_of_le (mG bt n)
end
noncomputable def JR(H:Hp):V->Bool
 | .ref a=>match H a with
  | some (.tup _)=>true
  | _=>false
 | _=>false
section
variable{K:W.Frag}
theorem Q6:W.kitOne K (.type "NoneType") (.type "tuple")=some false:=by kernel_rfl
theorem Ry:W.kitOne K (.type "bool") (.type "tuple")=some false:=by kernel_rfl
theorem QJ:W.kitOne K (.type "int") (.type "tuple")=some false:=by kernel_rfl
theorem QS:W.kitOne K (.type "str") (.type "tuple")=some false:=by kernel_rfl
theorem k_lt:W.kitOne K (.type "list") (.type "tuple")=some false:=by kernel_rfl
theorem RD:W.kitOne K (.type "tuple") (.type "tuple")=some true:=by kernel_rfl
theorem QG:W.kitOne K (.type "dict") (.type "tuple")=some false:=by kernel_rfl
variable{H:Hp}{x:V}
theorem Kd.isTuple (k:Kd K H x):Kh K H x (.type "tuple") (JR H x):=by
 cases k with
 | non=>exact⟨_,.of .non,Q6⟩
 | bl b=>exact⟨_,.of (.bl b),Ry⟩
 | int i=>exact⟨_,.of (.int i),QJ⟩
 | str y=>exact⟨_,.of (.str y),QS⟩
 | lst e=>refine⟨_,.of (.lst e),?_⟩;simp only[JR,e];exact k_lt
 | tup e=>refine⟨_,.of (.tup e),?_⟩;simp only[JR,e];exact RD
 | dict e=>refine⟨_,.dict e,?_⟩;simp only[JR,e,my];exact QG
end
structure J9(P:Program)(w:World)(K:W.Frag)(mg:Str->Option Value)(base:Heap)(k:Nat)(f:Addr)(ps:List Str)(ds:List V)(sp:Sp):Prop where
 ex:∃(fd:FuncData)(dvs:List Value),bD P w K mg base gG k f fd ps sp/\W.keepIn K (.ref f)=true/\Binds K fd ps dvs/\Vals ds dvs
section
variable{P:Program}{w:World}{K:W.Frag}{mg:Str->Option Value}{base:Heap}
theorem bf.defA {x qual:Str} {st:Stmt} {f:Addr} {fd:FuncData} {ps:List Str} {k:Nat} {sp:Sp} (F:bf K x qual st .none f fd) (G:bD P w K mg base gG k f fd ps sp)
  (h:∀(kV doc pm:Value)(an:Option Addr)(cdv ct:Value)(us:List Value),us.length=ps.length->bindArgs (W.fnOf x qual (iD st) (bJ st) (aA st) .none kV doc pm an cdv ct) ⟨us,[]⟩=pure (ps.zip us)):J9 P w K mg base k f ps [] sp:=by
 refine bM F.ex fun oc od kV doc pm an cdv ct osl e9_ lk hcd=>?_;subst e9_;exact⟨_,[],G,F.kp,.all (h kV doc pm an cdv ct),.nil⟩
end
section
variable{X:Cx}
theorem MT{E:Value->Shared->Prop}{pins:List (Addr×Obj)}{s:Shared}{σ:St}{H:Hp}{i:Nat}{x:Str}{v:V}{pos:Pos}{Q:Value->Shared->Prop}(I:Inv X pins σ H s)(hN:X.N[i]? =some x)(hv:Mr X.env.scope x)(e:σ[i]? =some (some v))(h:∀u,RelV v u->Q u s)(hd:(x==("__debug__":Str))=false:=by decide)(hcd:(x==("__classdict__":Str))=false:=by decide):wpAny (model X.prog X.w) X.A (eval (.Name x pos) X.env) Q E s:=by
 refine aO I.loc fun m hn hl=>?_;refine aO (hl i x v hN e hv) fun u r l=>?_;have fin:=h u r;rcases l with⟨hk,hm⟩ | ⟨hk,c,hc,hcell⟩
 ·exact wpAny_Name (wpAny_loadName_local I.ok.kind hk hn hm fin) hd
 ·rcases hk with hk | hk
  ·exact wpAny_Name (wpAny_loadName_cell I.ok.kind hk hc hcell fin) hd
  ·exact wpAny_Name (wpAny_loadName_free I.ok.kind hk hc hcell fin hcd) hd
noncomputable def M5(i:Nat)(f:Addr)(sp:Sp)(dvs:List V)(E:XK)(t:TA):TE:=fun σ H Q=>σ[i]? =some (some (.ref f))/\vd sp dvs E t σ H Q
theorem zU(i:Nat){k:Nat}{x:Str}{f:Addr}{ps:List Str}{ds:List V}{sp:Sp}{e:Expr}{es:List Expr}{t:TA}{p pos:Pos}(D:J9 X.prog X.w X.K X.mg X.base k f ps ds sp)(hr:dD k X.A)(ha:PA X (e::es) t)(hN:X.N[i]? =some x:=by rfl)(hv:Mr X.env.scope x:=by first | exact Or.inl Z | exact Or.inr (Or.inl Z) | exact Or.inr (Or.inr Z))(hdb:(x==("__debug__":Str))=false:=by decide)(hcd:(x==("__classdict__":Str))=false:=by decide)(he:starEach (e::es) X.env=(false,eval e X.env)::starEach es X.env:=by rfl)(hpl:(backTo pos (starEach es X.env)).any (·.1)=false:=by rfl):
  PE X (.Call (.Name x p) (e::es) [] pos) (M5 i f sp ds E0 t):=by
 refine jG D.ex fun fd dvs F hk hb hd=>?_;intro pins s σ H Q I ⟨hi,h⟩;refine wpAny_Call_Name_kw (MT I hN hv hi (fun u r=>?_) hdb hcd);obtain rfl:u=Value.ref f:=r;refine W.callWith_K (h₀:=X.base) I.ok.mod.kin hk (dF (ha pos pins s σ H _ I h) fun us s1 ⟨vs,H1,I1,r,q⟩=>⟨I1.kIn,?_⟩) he hpl;exact BZ F hr hb hd JB I1 r q
end
noncomputable def qi(ns:List Int):Int:=ns.getD (argBest (fun i j=>decide (ns.getD i 0<ns.getD j 0)) (ns.length - 1)) 0
theorem Ie{ns:List Int}(h:ns≠[]):qi ns∈ns:=by
 unfold qi;have hl:0<ns.length:=List.length_pos_iff.mpr h;have hle:=mG (fun i j=>decide (ns.getD i 0<ns.getD j 0)) (ns.length - 1);have hlt:argBest (fun i j=>decide (ns.getD i 0<ns.getD j 0)) (ns.length - 1)<ns.length:=by omega
 rw[List.getD_eq_getElem?_getD,List.getElem?_eq_getElem hlt];exact List.getElem_mem hlt
section
variable{X:Cx}
theorem FQ(K:W.Frag)(hK:X.K=K)(hc:X.calm=true):iR X (.builtin "min") (fun xs H Q=>∃p ns,xs=[.ref p]/\aP K H p (ns.map V.int)/\ns≠[]/\Q (.int (qi ns)) H):=by
 subst hK;intro pins s σ H xs us Q I r h;refine jG h fun p ns e2_ hp hne q=>?_;subst e2_;refine aO (vals1 r) fun u e1_ ru=>?_;subst e1_;cases ru;refine bL (I.list hp) fun its rv pl hz=>?_;have hlen:=rv.length;rw[List.length_map] at hlen;have hlt: @LT.lt Nat instLTNat p s.heap.objs.size:=by obtain⟨_,e,_⟩:=pl.isList;exact Heap.lt_size e
 have hyl:0<ns.length:=List.length_pos_iff.mpr hne
 have val:∀(i:Nat)(v:Value),its.toArray[i]? =some v->∃t,v=Value.int (ns.getD i 0) t:=fun i v hv=>by
  have hv':its[i]? =some v:=by simpa using hv
  have hi:i<ns.length:=by have:=(List.getElem?_eq_some_iff.mp hv').1;omega
  refine aO (rv.get (show(ns.map V.int)[i]? =some (.int ns[i]) by rw[List.getElem?_map,List.getElem?_eq_getElem hi];rfl)) fun w hw rw'=>?_;rw[hv'] at hw;cases hw;obtain⟨t,rfl⟩:=rw';exact⟨t,by simp[List.getD,hi]⟩
 refine call_min_walk (wpAny_pyIter_list pl.isList ?_);refine⟨s.heap.objs.size,_,_,_,_,_,fun i j=>decide (ns.getD i 0<ns.getD j 0),Z,Walks.list (A:=X.A.in1) (I.ok.hd hc) _ p (Nat.ne_of_lt hlt) its.toArray,⟨⟨_,Heap.get?_push_size _ Z,Z,Z⟩,pl.isList.push _⟩,fun b hb=>?_,by simp;omega,fun i j vi vj s Q E hi hj h=>?_,fun v h' tk hP hk=>?_⟩
 ·show @LT.lt Nat instLTNat b (s.heap.push _).objs.size;rw[Heap.size_push];rcases List.mem_cons.mp hb with e | hb
  ·rw[e];exact Nat.lt_succ_self _
  ·rw[List.mem_singleton.mp hb];exact Nat.lt_succ_of_lt hlt
 ·obtain⟨t1,rfl⟩:=val i vi hi;obtain⟨t2,rfl⟩:=val j vj hj;exact richCompare_gives (op:= .Lt) (typeIs_int s _ t1) (typeIs_int s _ t2) F.slot_int_lt F.entry_int_lt (F.args_int_lt_2 _ _) (gives_int_lt _ _ t1 t2) (fun x=>nomatch x) h
 ·obtain⟨t,rfl⟩:=val _ v hP;have es:its.toArray.size - 1=ns.length - 1:=by simp;omega
  rw[es]
  exact⟨.int _,H,I.kept (t':=tk) fun b o e=>hk b o (fun hm=>by have:=Heap.lt_size e;rw[List.mem_singleton.mp hm] at this;exact Nat.lt_irrefl _ this) (Heap.get?_push_of_some _ e),⟨t,Z⟩,q⟩
noncomputable def gK(ns:List Int):Nat:=ns.findIdx fun t=>decide (t=qi ns)
theorem rK{ns:List Int}(h:ns≠[]):ns[gK ns]? =some (qi ns):=by have hlt:gK ns<ns.length:=List.findIdx_lt_length_of_exists ⟨qi ns,Ie h,by simp⟩;rw[List.getElem?_eq_getElem hlt];have:=List.findIdx_getElem (p:=fun t=>decide (t=qi ns)) (xs:=ns) (w:=hlt);have e:ns[gK ns]=qi ns:=of_decide_eq_true this;rw[e]
theorem pQ{ns:List Int}{i:Nat}{t:Int}(hi:i<gK ns)(e:ns[i]? =some t):t≠qi ns:=by obtain⟨hl,rfl⟩:=List.getElem?_eq_some_iff.mp e;have:=List.not_of_lt_findIdx hi;simpa using this
theorem BW{K:W.Frag}{H:Hp}{Q:VK}{l:Addr}{ns:List Int}(e:H l=some (.lst (ns.map V.int)))(ne:ns≠[])(k:Q (.int (gK ns:Int)) H):ut K 1 (.ref l) [.int (qi ns)] H Q:=by
 refine⟨l,ns.map V.int,.int (qi ns),fun v=>decide (v= .int (qi ns)),gK ns,.int (qi ns),Z,Z,e,fun z hz=>?_,?_,decide_eq_true Z,fun i x hi hx=>?_,k⟩
 ·refine aO (List.mem_map.mp hz) fun t _ e2_=>?_;subst e2_;exact .inl (.inr ⟨Z,Z,by simp[JV];rw[Bool.eq_iff_iff];simp⟩)
 ·rw[List.getElem?_map,rK ne];rfl
 ·rw[List.getElem?_map] at hx;cases et:ns[i]? with
  | none=>rw[et] at hx;cases hx
  | some t=>
   rw[et] at hx;cases hx;refine decide_eq_false fun z=>pQ hi et ?_;injection z
noncomputable def Pj(K:W.Frag):List V->Hp->VK->Prop:=fun xs H Q=>∃(a C tp:Addr)(Cs:List Addr)(b:Bool),xs=[.ref a,.ref tp]/\H a=some (jf a C)/\pK K C/\d7 K H tp (Cs.map V.ref)/\W.kitAny K (.ref C) (Cs.map Value.ref)=some b/\Q (.bl b) H
theorem xM:∀{Cs:List Addr}{us:List Value},Vals (Cs.map V.ref) us->us=Cs.map Value.ref
 | [],_,r=>by cases r;rfl
 | C::Cs,_,.cons r t=>by rw[show _=Value.ref C from r,xM t];rfl
theorem xm(K:W.Frag)(hK:X.K=K):iR X (.builtin "isinstance") (Pj K):=by subst hK;intro pins s σ H xs us Q I rs h;refine zb h fun a C p2_=>?_;obtain⟨tp,Cs,b,rfl,ea,cc,ht,e,q⟩:=p2_;refine dB (vals2 rs) fun u w' e2_ r1 r2=>?_;subst e2_;cases r1;cases r2;refine bL (I.tuple ht) fun its r p1 _=>?_;have ei:=xM r;subst ei;refine uJ p1 fun p0_ e1 ec n ed=>?_;obtain⟨oc,od,odt,osl⟩:=p0_;cases ec;cases ed;refine wj ((show dO X.prog X.w H s.heap a (jf a C) from I.hok a _ ea)) fun p0_ _ _=>?_;obtain⟨ox,vx,p1,p2,p3,_⟩:=p0_;have p:∃o vs,s.heap.get? a=some o/\o.cls=Value.ref C/\o.data=Data.fields vs:=⟨ox,vx,p1,p2,p3⟩;exact W.kia_tup (Bl cc) I.kIn p e1 e (fun z=>nomatch z) fun tk=>⟨.bl b,H,I.tok tk,Z,q⟩
theorem oO{K:W.Frag}{t:Value}:∀{Cs:List Addr},(∀c∈Cs,W.kitOne K t (.ref c)=some false)->W.kitAny K t (Cs.map Value.ref)=some false
 | [],_=>Z
 | c::r,h=>by rw[List.map_cons];unfold W.kitAny;rw[h c List.mem_cons_self];exact oO fun d hd=>h d (List.mem_cons_of_mem _ hd)
end
section
variable{X:Cx}
theorem J8{ns:List Int}(h:ns≠[]):∀n∈ns,qi ns<=n:=fun n hn=>by
 obtain⟨i,hi,rfl⟩:=List.getElem_of_mem hn;have:=(argBest_lt (fun i=>ns.getD i 0) (ns.length - 1)).2 i (by omega);have e:ns.getD i 0=ns[i]:=by simp[List.getD,hi]
 rw[e] at this;exact this
noncomputable def dH(ns:List Int):Int:=ns.getD (argBest (fun i j=>decide (ns.getD i 0>ns.getD j 0)) (ns.length - 1)) 0
theorem gB{ns:List Int}(h:ns≠[]):dH ns∈ns:=by
 unfold dH;have hl:0<ns.length:=List.length_pos_iff.mpr h;have hle:=mG (fun i j=>decide (ns.getD i 0>ns.getD j 0)) (ns.length - 1);have hlt:argBest (fun i j=>decide (ns.getD i 0>ns.getD j 0)) (ns.length - 1)<ns.length:=by omega
 rw[List.getD_eq_getElem?_getD,List.getElem?_eq_getElem hlt];exact List.getElem_mem hlt
theorem iJ{ns:List Int}(h:ns≠[]):∀n∈ns,n<=dH ns:=fun n hn=>by
 obtain⟨i,hi,rfl⟩:=List.getElem_of_mem hn;have:=(argBest_gt (fun i=>ns.getD i 0) (ns.length - 1)).2 i (by omega);have e:ns.getD i 0=ns[i]:=by simp[List.getD,hi]
 rw[e] at this;exact this
theorem rD(K:W.Frag)(hK:X.K=K)(hc:X.calm=true):iR X (.builtin "max") (fun xs H Q=>∃p ns,xs=[.ref p]/\aP K H p (ns.map V.int)/\ns≠[]/\Q (.int (dH ns)) H):=by
 subst hK;intro pins s σ H xs us Q I r h;refine jG h fun p ns e2_ hp hne q=>?_;subst e2_;refine aO (vals1 r) fun u e1_ ru=>?_;subst e1_;cases ru;refine bL (I.list hp) fun its rv pl hz=>?_;have hlen:=rv.length;rw[List.length_map] at hlen;have hlt: @LT.lt Nat instLTNat p s.heap.objs.size:=by obtain⟨_,e,_⟩:=pl.isList;exact Heap.lt_size e
 have hyl:0<ns.length:=List.length_pos_iff.mpr hne
 have val:∀(i:Nat)(v:Value),its.toArray[i]? =some v->∃t,v=Value.int (ns.getD i 0) t:=fun i v hv=>by
  have hv':its[i]? =some v:=by simpa using hv
  have hi:i<ns.length:=by have:=(List.getElem?_eq_some_iff.mp hv').1;omega
  refine aO (rv.get (show(ns.map V.int)[i]? =some (.int ns[i]) by rw[List.getElem?_map,List.getElem?_eq_getElem hi];rfl)) fun w hw rw'=>?_;rw[hv'] at hw;cases hw;obtain⟨t,rfl⟩:=rw';exact⟨t,by simp[List.getD,hi]⟩
 refine call_max_walk (wpAny_pyIter_list pl.isList ?_);refine⟨s.heap.objs.size,_,_,_,_,_,fun i j=>decide (ns.getD i 0>ns.getD j 0),Z,Walks.list (A:=X.A.in1) (I.ok.hd hc) _ p (Nat.ne_of_lt hlt) its.toArray,⟨⟨_,Heap.get?_push_size _ Z,Z,Z⟩,pl.isList.push _⟩,fun b hb=>?_,by simp;omega,fun i j vi vj s Q E hi hj h=>?_,fun v h' tk hP hk=>?_⟩
 ·show @LT.lt Nat instLTNat b (s.heap.push _).objs.size;rw[Heap.size_push];rcases List.mem_cons.mp hb with e | hb
  ·rw[e];exact Nat.lt_succ_self _
  ·rw[List.mem_singleton.mp hb];exact Nat.lt_succ_of_lt hlt
 ·obtain⟨t1,rfl⟩:=val i vi hi;obtain⟨t2,rfl⟩:=val j vj hj;exact richCompare_gives (op:= .Gt) (typeIs_int s _ t1) (typeIs_int s _ t2) F.slot_int_gt F.entry_int_gt (F.args_int_gt_2 _ _) (gives_int_gt _ _ t1 t2) (fun x=>nomatch x) h
 ·obtain⟨t,rfl⟩:=val _ v hP;have es:its.toArray.size - 1=ns.length - 1:=by simp;omega
  rw[es]
  exact⟨.int _,H,I.kept (t':=tk) fun b o e=>hk b o (fun hm=>by have:=Heap.lt_size e;rw[List.mem_singleton.mp hm] at this;exact Nat.lt_irrefl _ this) (Heap.get?_push_of_some _ e),⟨t,Z⟩,q⟩
end
structure vU(P:Program)(w:World)(K:W.Frag)(mg:Str->Option Value)(base:Heap)(k:Nat)(f:Addr)(fd:FuncData)(ps:List Str)(sp:Addr->Sp):Prop where
 len:∀ea vs H Q E,sp ea vs H Q E->vs.length=ps.length
 run:∀(A:Around)(ea:Addr)(outer:List Env)(s:Shared)(H:Hp)(args:Args)(us:List Value)(vs:List V)(Q:VK)(E:XK),dD k A->pC P w K mg base (A.mark (some (.ref ea))) outer s H->BindsTo s fd args (ps.zip us)->Vals vs us->sp ea vs H Q E->
  codeAny (model P w) (A.mark (some (.ref ea))) (.call (.ref f) args) (CR gG outer P w H s Q E) s
structure Nk(P:Program)(w:World)(K:W.Frag)(mg:Str->Option Value)(base:Heap)(k:Nat)(x:Str)(ps:List Str)(ds:List V)(sp:Addr->Sp):Prop where
 ex:∃(f:Addr)(fd:FuncData)(dvs:List Value),vU P w K mg base k f fd ps sp/\mg x=some (.ref f)/\W.keepIn K (.ref f)=true/\Binds K fd ps dvs/\Vals ds dvs
section
variable{P:Program}{w:World}{K:W.Frag}{mg:Str->Option Value}{base:Heap}
theorem pC.unmark {A:Around} {ea:Addr} {outer:List Env} {s:Shared} {H:Hp} (e:pC P w K mg base (A.mark (some (.ref ea))) outer s H):pC P w K mg base A outer s H:=⟨e.frames,e.mod,e.bs,e.bsz,e.funs,e.frf,e.hok,e.bare⟩
theorem bf.okM {x qual:Str} {st:Stmt} {dV:Value} {f:Addr} {fd:FuncData} {N ps:List Str} {k:Nat} {sp:Addr->Sp} (F:bf K x qual st dV f fd) (S:aL N ps (aA st)) (len:∀ea vs H Q E,sp ea vs H Q E->vs.length=ps.length)
  (hbody:∀(cdv:Value)(A:Around)(ea:Addr)(outer:List Env)(s:Shared)(H:Hp)(vs:List V)(Q:VK)(E:XK),dD k (A.deeper (envOfC qual (aA st) s.heap.objs.size f cdv))->sp ea vs H Q E->
   ∃t,qz ((jx gG P w K mg base N qual (aA st) f cdv A outer s H E).marked ea) (bJ st) t/\t {nx:=fun _ H'=>Q .non H',rt:=Q} (start N vs) H):vU P w K mg base (k+1) f fd ps sp:=by
 refine bM F.ex fun oc od kV doc pm an cdv ct osl e9_ lk hcd=>?_;subst e9_;refine⟨len,fun A ea outer s H args us vs Q E hr e0 hb r hsp=>?_⟩;have hl:=len _ _ _ _ _ hsp;have KX:K.In s.heap:=e0.mod.kin.keeps fun b o e=>(e0.bs b o e).1;have lim:s.heap.NoLimit:=e0.mod.nolimit.keeps fun b o e=>(e0.bs b o e).1
 have hkind:∀y∈ps.zip us,(aA st).names.lookup y.1=some .local\/((aA st).names.lookup y.1=some .cell/\((cellsFrom (s.heap.objs.size+1) (aA st).names []).lookup y.1).isSome=true):=fun⟨n,v⟩ hy=>by
  rcases S.par n (List.of_mem_zip hy).1 with q | q
  ·exact .inl q
  ·exact .inr ⟨q,W.cellsFrom_some _ _ _ (.inl q)⟩
 refine codeAny_call_function (A:=A.mark (some (.ref ea))) hr.depth (KX _ _ lk) Z S.co S.gen Z (W.codeRec_of KX hcd) (hb _ _ _ _ ?_);refine wpAny_newFunctionEnv_cells S.kind hkind fun env he s1 x=>?_;subst he;refine⟨lim.keeps x.toInCall.keep,codeAny_func ?_⟩;refine aO (hbody cdv A ea outer s H vs Q E (hr.deeper _) hsp) fun t ht hq=>?_;have I:Inv ((jx gG P w K mg base N qual (aA st) f cdv A outer s H E).marked ea) [] (start N vs) H s1:=(xR S hr.hd e0.unmark hl r x).marked ea;refine wpAny_mono (ht [] s1 (start N vs) H _ I hq) (fun fl s' hs=>?_) fun e s' hs=>False.elim hs
 have fin:∀{σ':St}{H':Hp}{v:V}{u:Value},Inv ((jx gG P w K mg base N qual (aA st) f cdv A outer s H E).marked ea) [] σ' H' s'->RelV v u->Q v H'->CE outer P w H s Q u s':=
  fun{σ' H' v u} J rv q=>⟨v,H',J.os,J.bare,J.base,J.hok,rv,q⟩
 cases fl with
 | ret u=>
  refine oR hs fun v σ' H' J rv q=>?_;exact fin J rv q
 | next=>
  refine gP hs fun σ' H' J q=>?_;exact fin (v:=V.non) (u:=Value.none) J Z q
 | brk=>
  refine gP hs fun _ _ _ q=>?_;exact False.elim q
 | cont=>
  refine gP hs fun _ _ _ q=>?_;exact False.elim q
theorem bf.defM {x qual:Str} {st:Stmt} {f:Addr} {fd:FuncData} {ps:List Str} {k:Nat} {sp:Addr->Sp} (F:bf K x qual st .none f fd) (G:vU P w K mg base k f fd ps sp) (hm:mg x=some (.ref f))
  (h:∀(kV doc pm:Value)(an:Option Addr)(cdv ct:Value)(us:List Value),us.length=ps.length->bindArgs (W.fnOf x qual (iD st) (bJ st) (aA st) .none kV doc pm an cdv ct) ⟨us,[]⟩=pure (ps.zip us)):Nk P w K mg base k x ps [] sp:=by
 refine bM F.ex fun oc od kV doc pm an cdv ct osl e9_ lk hcd=>?_;subst e9_;exact⟨f,_,[],G,hm,F.kp,.all (h kV doc pm an cdv ct),.nil⟩
end
section
variable{X:Cx}
theorem Ih{k:Nat}{x:Str}{ps:List Str}{ds:List V}{sp:Addr->Sp}{e:Expr}{es:List Expr}{t:TA}{p pos:Pos}{ea:Addr}(D:Nk X.prog X.w X.K X.mg X.base k x ps ds sp)(hr:dD k X.A)(hg:Gl (X.marked ea) x)(ha:PA (X.marked ea) (e::es) t)(hdb:(x==("__debug__":Str))=false:=by decide)(he:starEach (e::es) X.env=(false,eval e X.env)::starEach es X.env:=by rfl)(hpl:(backTo pos (starEach es X.env)).any (·.1)=false:=by rfl):
  PE (X.marked ea) (.Call (.Name x p) (e::es) [] pos) (vd (sp ea) ds E0 t):=by
 refine kh D.ex fun f fd dvs F hm hk hb hd=>?_;intro pins s σ H Q I h;refine wpAny_Call_Name_kw (mQ I hg hm ?_ hdb);refine W.callWith_K (h₀:=X.base) I.ok.mod.kin hk (dF (ha pos pins s σ H _ I h) fun us s1 ⟨vs,H1,I1,r,q⟩=>⟨I1.kIn,?_⟩) he hpl;have r2:Vals (vs++ds) (us++dvs):=r.append hd;have hl:(us++dvs).length=ps.length:=by rw[<-r2.length];exact F.len _ _ _ _ _ q
 refine wpAny_call (codeAny_mono (F.run X.A ea X.stack s1 H1 ⟨us,[]⟩ (us++dvs) (vs++ds) Q E0 hr I1.env0 (hb s1 us I1.kIn hl) r2 q) fun r s' hq=>?_);cases r with
 | error e=>exact False.elim hq
 | ok fl=>
  cases fl with
  | ret u=>exact I1.after hq
  | next=>exact False.elim hq
  | brk=>exact False.elim hq
  | cont=>exact False.elim hq
end
set_option maxHeartbeats 1600000
noncomputable def jU(c:Addr)(qual:Str):HO:= .ext fun h=>h.CodeRec (.ref c) qual
noncomputable def BMain(mg:Str->Option Value)(base:Heap):Prop:=∃bm ob,mg "__builtins__"=some (.ref bm)/\bm≠builtinsNs/\base.get? bm=some ob/\ob.cls= .type "module"/\ob.dict=some builtinsNs/\ob.data= .plain
section
variable{P:Program}{w:World}{H:Hp}{h:Heap}
theorem Hm{c:Addr}{qual:Str}(e:h.CodeRec (.ref c) qual):dO P w H h c (jU c qual):=by refine jq (id e) fun c2 oc vs t e2 hoc hd hv=>?_;cases e2;exact⟨e,⟨oc,hoc⟩,fun h1 h2 ⟨c3,o3,v3,t3,e3,f1,f2,f3⟩ k=>by cases e3;exact⟨_,o3,v3,t3,Z,k _ f1,f2,f3⟩⟩
end
section
variable{P:Program}{w:World}{K:W.Frag}{mg:Str->Option Value}{base:Heap}
theorem bf.okT {x qual:Str} {st:Stmt} {dV:Value} {f c:Addr} {fd:FuncData} {N ps:List Str} {k:Nat} {sp:Sp} (F:bf K x qual st dV f fd) (hc:fd.code= .ref c) (S:aL N ps (aA st)) (len:∀vs H Q E,sp vs H Q E->vs.length=ps.length)
  (hbody:∀(cdv:Value)(hcdv:cdv= .ref c)(A:Around)(outer:List Env)(s:Shared)(H:Hp)(vs:List V)(Q:VK)(E:XK),dD k (A.deeper (envOfC qual (aA st) s.heap.objs.size f cdv))->sp vs H Q E->
   ∃t,qz (jx gG P w K mg base N qual (aA st) f cdv A outer s H E).nox (bJ st) t/\t {nx:=fun _ H'=>Q .non H',rt:=Q} (start N vs) H):bD P w K mg base gG (k+1) f fd ps sp:=by
 refine bM F.ex fun oc od kV doc pm an cdv ct osl e9_ lk hcd=>?_;subst e9_;refine DY lk hcd S len fun A outer s H vs Q E hr hsp=>?_;refine aO (hbody cdv hc A outer s H vs Q E hr hsp) fun t h q=>?_;exact⟨t,h.nox,q⟩
theorem bf.okXT {x qual:Str} {st:Stmt} {dV:Value} {f c:Addr} {fd:FuncData} {N ps:List Str} {k:Nat} {sp:Sp} (F:bf K x qual st dV f fd) (hc:fd.code= .ref c) (S:aL N ps (aA st)) (len:∀vs H Q E,sp vs H Q E->vs.length=ps.length)
  (hbody:∀(cdv:Value)(hcdv:cdv= .ref c)(A:Around)(outer:List Env)(s:Shared)(H:Hp)(vs:List V)(Q:VK)(E:XK),dD k (A.deeper (envOfC qual (aA st) s.heap.objs.size f cdv))->sp vs H Q E->
   ∃t,qz (jx (kj P w) P w K mg base N qual (aA st) f cdv A outer s H E) (bJ st) t/\t {nx:=fun _ H'=>Q .non H',rt:=Q} (start N vs) H):bD P w K mg base (kj P w) (k+1) f fd ps sp:=by
 refine bM F.ex fun oc od kV doc pm an cdv ct osl e9_ lk hcd=>?_;subst e9_;refine DY lk hcd S len fun A outer s H vs Q E hr hsp=>?_;exact hbody cdv hc A outer s H vs Q E hr hsp
end
theorem Fq{P:Program}{w:World}{K:W.Frag}{mg mb:Str->Option Value}{CX:Gy}{k:Nat}{fa a:Addr}{fd:FuncData}{x:Str}{sp:Sp}{s₁:Shared}{vs:List Value}{ns:List Int}{ts:List Addr}(KX:K.In s₁.heap)(hns:s₁.heap.Ns mainGlobals mg)(hb:s₁.heap.Ns builtinsNs mb)(hbb:∀x:Str,x≠"__name__"->mb x=bootBuiltins x)(hlim:s₁.heap.NoLimit)(hg:s₁.gens=#[])(hBM:BMain mg s₁.heap)(hT:∀p∈ts,s₁.heap.get? p=some (W.tabObj #[]))(hC:∀p∈ts,∃c,W.codeHdIn K c p=true)(hNT:W.noTabs K=true)(ha:s₁.heap.get? a=some {cls:= .type "list",data:= .seq vs.toArray})(hi:IntsAre vs ns)(hl:ns.length<=sizeLine)(hr:dD k callerA)(F:∀base:Heap,K.In base->base.Ns mainGlobals mg->BMain mg base->bD P w K mg base CX k fa fd [x] sp)(hbind:∀(s:Shared)(u:Value),BindsTo s fd ⟨[u],[]⟩ [(x,u)])(hsp:∀H:Hp,(∀p∈ts,H p=some (.tbl #[]))->aP K H a (ns.map V.int)->sp [.ref a] H (fun v _=>v= .bl true) fun _ _ _=>False)(hCX:∀H e s',CX [] H s₁ (fun _ _ _=>False) e s'->False):
  codeAny (model P w) callerA (.call (.ref fa) ⟨[.ref a],[]⟩) (fun r s'=>r= .ok (.ret (.bool true))/\OldK s₁.heap s'.heap/\s'.os=s₁.os/\AllBare s'.gens) s₁:=by
 have rv:=xX hi;have lenV:=hi.length
 have nat:a∉ts:=fun z=>by have:=hT a z;rw[ha] at this;cases this
 have core:∀H:Hp,(∀b,H b=none\/(∃o xs,H b=some (.frz o (.lst xs)))\/(H b=some (.tbl #[])/\b∈ts))->(∀p∈ts,H p=some (.tbl #[]))->aP K H a (ns.map V.int)->tM P w H s₁.heap->(∀b,H b≠none->b=a\/b∈ts)->(H a≠none->K.lookup a=none)->
   codeAny (model P w) callerA (.call (.ref fa) ⟨[.ref a],[]⟩) (fun r s'=>r= .ok (.ret (.bool true))/\OldK s₁.heap s'.heap/\s'.os=s₁.os/\AllBare s'.gens) s₁:=by
  intro H hO hTs hS hok hA hK;have base_of:∀{b:Addr}{o:Obj},s₁.heap.get? b=some o->H b=none->(wy s₁.heap H).get? b=some o:=fun e n=>Io e n
  have noB:∀{b:Addr}{o:Obj},s₁.heap.get? b=some o->o≠{cls:= .type "list",data:= .seq vs.toArray}->o≠W.tabObj #[]->H b=none:=fun{b o} e n1 n2=>by
   cases q:H b with
   | none=>rfl
   | some u=>
    rcases hA b (by rw[q];simp) with e' | e'
    ·subst e';rw[ha] at e;cases e;exact absurd Z n1
    ·have:=hT b e';rw[e] at this;cases this;exact absurd Z n2
  have nsK:∀{b:Addr}{m:Str->Option Value},s₁.heap.Ns b m->(wy s₁.heap H).Ns b m:=fun{b m} ⟨o,es,ep,e,d,r⟩=>⟨o,es,ep,base_of e (noB e (fun z=>by rw[z] at d;cases d) (fun z=>by rw[z] at d;cases d)),d,r⟩
  have hKb:K.In (wy s₁.heap H):=fun b o e=>base_of (KX b o e) (by
   cases q:H b with
   | none=>rfl
   | some u=>
    rcases hA b (by rw[q];simp) with e' | e'
    ·subst e';rw[hK (by rw[q];simp)] at e;cases e
    ·have e3:=hT b e';rw[KX b o e] at e3;cases e3;have h2:=List.all_eq_true.mp hNT (b,_) (W.mem_of_lookupK e);exact absurd (show false=true from h2) Bool.false_ne_true)
  have hBMb:BMain mg (wy s₁.heap H):=by refine oM hBM fun bm ob b1 b2 b3 b4 b5 b6=>?_;exact⟨bm,ob,b1,b2,base_of b3 (noB b3 (fun z=>by rw[z] at b6;cases b6) (fun z=>by rw[z] at b6;cases b6)),b4,b5,b6⟩
  have hM:Mod K mg (wy s₁.heap H):=⟨hKb,nsK hns,⟨mb,nsK hb,hbb⟩,let⟨mc,h1,h2⟩:=hlim;⟨mc,nsK h1,h2⟩⟩;have e0:pC P w K mg (wy s₁.heap H) callerA [] s₁ H:=⟨Z,hM,fun b o e=>J2 e,Nat.le_of_eq (Gq _ _),trivial,fun b hb=>absurd (show b∈([]:List Addr) from hb) (by simp),hok,.of_eq hg⟩;refine codeAny_mono ((F _ hKb (nsK hns) hBMb).run callerA [] s₁ H ⟨[.ref a],[]⟩ [.ref a] [.ref a] _ _ hr e0 (hbind s₁ (.ref a)) (.cons Z .nil) (hsp H hTs hS)) fun r s' h=>?_;cases r with
  | error e=>exact(hCX H e s' h).elim
  | ok fl=>
   cases fl with
   | next=>exact False.elim h
   | brk=>exact False.elim h
   | cont=>exact False.elim h
   | ret u=>
    refine oM h fun v H' os bare un hok' r' q=>?_;have q':v= .bl true:=q;subst q';obtain rfl:u=Value.bool true:=r'
    have kept:∀b o,b∉ts->s₁.heap.get? b=some o->s'.heap.get? b=some o:=fun b o nb e=>by
     cases q:H b with
     | none=>exact un.keep b o e q (by intro z;exact absurd (show b∈([]:List Addr) from z) (by simp)) (by simp)
     | some u=>
      rcases hO b with z | ⟨ob,xs,z⟩ | ⟨_,z⟩
      ·rw[q] at z;cases z
      ·have z2:=un.frzs b ob _ z;obtain⟨e1,_⟩:=hok b _ z;obtain⟨e2,_⟩:=hok' b _ z2;rw[e] at e1;cases e1;exact e2
      ·exact absurd z nb
    have grown:∀b∈ts,∃more:Array Value,s'.heap.get? b=some (W.tabObj (#[]++more)):=fun b hb=>by obtain⟨more,z⟩:=un.tbls b _ (hTs b hb);exact⟨more,hok' b _ z⟩
    refine⟨Z,⟨fun b o e=>?_,fun b o e=>?_⟩,os,bare⟩
    ·by_cases hbt:b∈ts
     ·obtain⟨more,z⟩:=grown b hbt;have e2:=hT b hbt;rw[e] at e2;cases e2;obtain⟨c,hc⟩:=hC b hbt;exact .inr (.inl ⟨((W.codeHd_of_K KX hc).tab (hT b hbt)).isCodeTable,Z,#[],more,Z,z⟩)
     ·exact .inl (kept b o hbt e)
    ·by_cases hbt:b∈ts
     ·obtain⟨more,z⟩:=grown b hbt;exact⟨_,z⟩
     ·exact⟨o,kept b o hbt e⟩
 cases hk:K.lookup a with
 | some o=>
  have e:=KX a o hk;rw[ha] at e;cases e;refine core (fun b=>if b∈ts then some (.tbl #[]) else none) (fun b=>?_) (fun p hp=>if_pos hp) (.inr ⟨_,vs.toArray,_,hk,Z,Z,Z,by rw[List.size_toArray,lenV];exact hl,by simpa using rv⟩) (fun b u z=>?_) (fun b z=>?_) fun z=>absurd (if_neg nat) z
  ·by_cases hb:b∈ts
   ·exact .inr (.inr ⟨if_pos hb,hb⟩)
   ·exact .inl (if_neg hb)
  ·by_cases hb:b∈ts
   ·have z':=(if_pos hb).symm.trans z;cases z';exact hT b hb
   ·have z':=(if_neg hb).symm.trans z;cases z'
  ·by_cases hb:b∈ts
   ·exact .inr hb
   ·exact absurd (if_neg hb) z
 | none=>
  have ifa:∀b,b=a->(if b=a then some (HO.frz {cls:= .type "list",data:= .seq vs.toArray} (.lst (ns.map V.int))) else if b∈ts then some (.tbl #[]) else none)=some (HO.frz {cls:= .type "list",data:= .seq vs.toArray} (.lst (ns.map V.int))):=fun b hb=>if_pos hb
  have ift:∀b,b∈ts->(if b=a then some (HO.frz {cls:= .type "list",data:= .seq vs.toArray} (.lst (ns.map V.int))) else if b∈ts then some (.tbl #[]) else none)=some (HO.tbl #[]):=fun b hb=>by have nb:¬b=a:=fun z=>nat (by rw[<-z];exact hb);rw[if_neg nb,if_pos hb]
  have ifn:∀b,b≠a->b∉ts->(if b=a then some (HO.frz {cls:= .type "list",data:= .seq vs.toArray} (.lst (ns.map V.int))) else if b∈ts then some (.tbl #[]) else none)=none:=fun b n1 n2=>by rw[if_neg n1,if_neg n2]
  refine core (fun b=>if b=a then some (.frz {cls:= .type "list",data:= .seq vs.toArray} (.lst (ns.map V.int))) else if b∈ts then some (.tbl #[]) else none) (fun b=>?_) (fun p hp=>ift p hp) (.inl (.inr ⟨{cls:= .type "list",data:= .seq vs.toArray},ifa a Z⟩)) (fun b u z=>?_) (fun b z=>?_) fun _=>hk
  ·by_cases hb:b=a
   ·exact .inr (.inl ⟨_,_,ifa b hb⟩)
   ·by_cases ht:b∈ts
    ·exact .inr (.inr ⟨ift b ht,ht⟩)
    ·exact .inl (ifn b hb ht)
  ·by_cases hb:b=a
   ·have z':=(ifa b hb).symm.trans z;cases z';subst hb;exact⟨ha,by rw[List.length_map];exact hl,vs,_,rv,ha⟩
   ·by_cases ht:b∈ts
    ·have z':=(ift b ht).symm.trans z;cases z';exact hT b ht
    ·have z':=(ifn b hb ht).symm.trans z;cases z'
  ·by_cases hb:b=a
   ·exact .inl hb
   ·by_cases ht:b∈ts
    ·exact .inr ht
    ·exact absurd (ifn b hb ht) z
theorem GQ{l:W.OpenLaw}{n k:Nat}{q:Program}{loose:List Str}{XP:(Str->Option Value)->Heap->Prop}{YP:World->Heap->Prop}{d:DefRec}{K:Params->W.Frag}{CX:Gy}{sp:W.Frag->Sp}{x:Str}{ts:List Addr}(hn:l.most=some n)(hn2:n<=sizeLine)(hdf:d.params.defaults=[])(hr:dD k callerA)(hY:∀(w:World)(h:Heap),YP w h->(K w.params).In h)(hT:∀(w:World)(h:Heap),YP w h->∀p∈ts,h.get? p=some (W.tabObj #[]))(hC:∀(w:World),∀p∈ts,∃c,W.codeHdIn (K w.params) c p=true)(hNT:∀w:World,W.noTabs (K w.params)=true)(F:∀(w:World)(mg:Str->Option Value)(fa:Addr)(h:Heap),(K w.params).In h->h.Ns mainGlobals mg->mg d.name=some (.ref fa)->
   ∃fd:FuncData,(∀(s:Shared)(u:Value),BindsTo s fd ⟨[u],[]⟩ [(x,u)])/\
    ∀base:Heap,(K w.params).In base->base.Ns mainGlobals mg->BMain mg base->bD l.prog w (K w.params) mg base CX k fa fd [x] (sp (K w.params)))(hsp:∀(K:W.Frag)(H:Hp)(a:Addr)(ns:List Int),ns.length<=n->(∀x∈ns,Builtin.Int.intBits x<=2 ^ 20)->(∀p∈ts,H p=some (.tbl #[]))->aP K H a (ns.map V.int)->sp K [.ref a] H (fun v _=>v= .bl true) fun _ _ _=>False)(hCX:∀(H:Hp)(s:Shared)(e:Value)(s':Shared),CX [] H s (fun _ _ _=>False) e s'->False):
  W.WalkO q loose XP YP l.row.toRowW d [] (fun f vs=>PySem.call f vs):=by
 refine Att.attach_callB hn hdf fun w s₀ s₁ mg mb fa o pm cd doc a vs ns G Y ho hd hcd hmg hobj hints hlen hbits hg=>?_;have KX:=hY w _ Y;refine aO (F w mg fa _ KX G.T.g hmg) fun fd hb hF=>?_;exact Fq KX G.T.g G.T.b G.T.builtins G.T.nolimit hg G.T.bmain (hT w _ Y) (hC w) (hNT w) hobj hints (Nat.le_trans hlen hn2) hr hF hb (fun H hO hS=>hsp (K w.params) H a ns hlen hbits hO hS) fun H e s'=>hCX H s₁ e s'
noncomputable def qT(ts:List Addr)(H H':Hp):Prop:=∀b o,b∉ts->H b=some o->H' b=some o
theorem qT.of {ts:List Addr} {H H':Hp} (s:aC H H'):qT ts H H':=fun b o _ e=>s b o e
theorem qT.trans {ts:List Addr} {H H1 H2:Hp} (a:qT ts H H1) (b:qT ts H1 H2):qT ts H H2:=fun c o n e=>b c o n (a c o n e)
noncomputable def Ng(K:W.Frag)(neg:Bool)(n:Nat):R2:=fun x y H Q=>∃(p:Addr)(xs:List V)(be:V->Bool),y= .ref p/\aP K H p xs/\(∀z∈xs,Am K H n z x (be z))/\Q (.bl (if neg then !(xs.any be) else xs.any be)) H
theorem yp{be:V->Bool}:∀{xs:List V}{us:List Value},Vals xs us->us.any (fun w=>be (toV w))=xs.any be
 | _,_,.nil=>Z
 | _,_,.cons r t=>by rw[List.any_cons,List.any_cons,yp t,ul r]
section
variable{X:Cx}
theorem CQ{pins:List (Addr×Obj)}{s:Shared}{σ:St}{H:Hp}{n:Nat}(hn:n<=30)(hu:X.A.units+64<cLine)(I:Inv X pins σ H s){x:V}{v:Value}(rx:RelV x v){be:V->Bool}:∀{xs:List V}{us:List Value},Vals xs us->(∀z∈xs,Am X.K H n z x (be z))->∀u∈us,SeqAt.EqAt X.A.in1 s u v (be (toV u))
 | _,_,.nil,_,u,hu'=>nomatch hu'
 | z::xs,w::us,.cons r t,he,u,hu'=>by
  rcases List.mem_cons.mp hu' with e | hm
  ·rw[e,ul r];refine sW I n X.A.in1 ?_ _ _ _ _ _ (he z List.mem_cons_self) r rx;show X.A.units+1+n<cLine;omega
  ·exact CQ hn hu I rx t (fun z hz=>he z (List.mem_cons_of_mem _ hz)) u hm
theorem Oh(K:W.Frag)(hK:X.K=K)(n:Nat)(hn:n<=30)(hu:X.A.units+64<cLine):tE X (compareOp .In) (Ng K false n):=by subst hK;intro pins s σ H x y v u Q I rx ry h;refine jn h fun p xs be e3_ hq he q=>?_;subst e3_;cases ry;refine bL (I.list hq) fun its r pl hz=>?_;refine SeqAt.in_listAt (fun w=>be (toV w)) pl.isList (fun w hw=>CQ hn hu I rx r he w (by simpa using hw)) ⟨.bl _,H,I,Z,?_⟩;rw[show its.toArray.any (fun w=>be (toV w))=its.any (fun w=>be (toV w)) by simp,yp r];exact q
theorem xH(K:W.Frag)(hK:X.K=K)(n:Nat)(hn:n<=30)(hu:X.A.units+64<cLine):tE X (compareOp .NotIn) (Ng K true n):=by subst hK;intro pins s σ H x y v u Q I rx ry h;refine jn h fun p xs be e3_ hq he q=>?_;subst e3_;cases ry;refine bL (I.list hq) fun its r pl hz=>?_;refine SeqAt.notIn_listAt (fun w=>be (toV w)) pl.isList (fun w hw=>CQ hn hu I rx r he w (by simpa using hw)) ⟨.bl _,H,I,Z,?_⟩;rw[show its.toArray.any (fun w=>be (toV w))=its.any (fun w=>be (toV w)) by simp,yp r];exact q
end
end L2
namespace M4
end M4
set_option maxHeartbeats 4000000
namespace K19
open PySem L2 M4
noncomputable abbrev C4:=Addr×Nat×Nat×Nat
theorem Ol:0<=sizeLine:=by decide
theorem uC:1<=sizeLine:=by decide
theorem uw:2<=sizeLine:=by decide
theorem JQ:3<=sizeLine:=by decide
theorem Rb:4<=sizeLine:=by decide
theorem Sh:5<=sizeLine:=by decide
theorem SJ:7<=sizeLine:=by decide
theorem Sq:8<=sizeLine:=by decide
theorem R3:9<=sizeLine:=by decide
theorem RB:11<=sizeLine:=by decide
noncomputable def top(i:Nat):Stmt:=PySem.Challenge.pw_cellfolio_k19_whole_fewer_walked.main.body.getD i (.Pass ⟨0,0,0,0⟩)
noncomputable abbrev jF:Stmt:=top 29
noncomputable abbrev iU:Stmt:=top 30
noncomputable abbrev rW:Stmt:=top 31
noncomputable abbrev sH:Stmt:=top 32
noncomputable abbrev iQ:Stmt:=top 33
noncomputable abbrev lR:Stmt:=top 34
noncomputable abbrev mY:Stmt:=top 35
noncomputable abbrev j5:Stmt:=top 36
noncomputable abbrev lQ:Stmt:=top 37
noncomputable abbrev oh:Stmt:=top 39
noncomputable abbrev oH:Stmt:=top 42
noncomputable abbrev lV:Stmt:=top 43
noncomputable abbrev yN:Stmt:=top 44
noncomputable abbrev s_Palette.__init__:Stmt:=inClass (top 47) 0
noncomputable abbrev s_Palette.colours:Stmt:=inClass (top 47) 1
noncomputable abbrev s_Palette.many:Stmt:=inClass (top 47) 2
noncomputable abbrev s_Palette.colour_of:Stmt:=inClass (top 47) 3
noncomputable abbrev s_Palette.cell_of:Stmt:=inClass (top 47) 4
noncomputable abbrev s_Palette.add_colour:Stmt:=inClass (top 47) 5
noncomputable abbrev gU:Stmt:=top 48
noncomputable abbrev m5:Stmt:=top 49
noncomputable abbrev lU:Stmt:=top 51
noncomputable abbrev mK:Stmt:=top 52
noncomputable abbrev dj:Stmt:=top 53
noncomputable abbrev gf:Stmt:=top 54
noncomputable abbrev eG:Stmt:=top 55
noncomputable abbrev fO:Stmt:=top 56
noncomputable abbrev lE:Stmt:=top 57
noncomputable abbrev j6:Stmt:=top 59
noncomputable abbrev oE:Stmt:=top 60
noncomputable abbrev qb:Stmt:=top 61
noncomputable abbrev iK:Stmt:=top 62
noncomputable abbrev ou:Stmt:=top 63
noncomputable abbrev qe:Stmt:=top 64
noncomputable abbrev ql:Stmt:=top 65
noncomputable abbrev lK:Stmt:=top 66
noncomputable abbrev m6:Stmt:=top 67
noncomputable abbrev jB:Stmt:=top 68
noncomputable abbrev sU:Stmt:=top 69
noncomputable abbrev cV:Stmt:=top 70
noncomputable abbrev mX:Stmt:=top 71
noncomputable abbrev qd:Stmt:=top 72
noncomputable abbrev nT:Stmt:=top 73
noncomputable abbrev jT:Stmt:=top 74
noncomputable abbrev iH:Stmt:=top 75
noncomputable abbrev gQ:Stmt:=top 76
noncomputable abbrev iz:Stmt:=top 77
noncomputable abbrev jE:Stmt:=top 78
noncomputable abbrev lC:Stmt:=top 79
noncomputable abbrev ie:Stmt:=top 80
theorem nZ{b:Bool}{A B:Prop}(h1:b=true->A)(h2:b=false->B):if b=true then A else B:=by
 cases b with
 | true=>exact Fj (h1 Z)
 | false=>exact FZ (h2 Z)
theorem uc{b:Bool}{A B:Prop}(h1:b=false->A)(h2:b=true->B):if(!b)=true then A else B:=by
 cases b with
 | true=>exact FZ (h2 Z)
 | false=>exact Fj (h1 Z)
noncomputable def cQ(lo hi:Int):V->Bool
 | .int i=>decide (lo<=i)&&decide (i<=hi)
 | _=>false
noncomputable def ir(rows:List (List Int)):List (List V):=rows.map fun r=>r.map V.int
structure Good(rows:List (List Int))(w:Nat):Prop where
 ne:1<=rows.length
 le:rows.length<=24
 w1:1<=w
 w24:w<=24
 row:∀r∈rows,r.length=w/\∀c∈r,0<=c/\c<=15
noncomputable def PB(lo:Int):V->Bool
 | .int i=>decide (lo<=i)
 | _=>false
noncomputable def Qm(K:W.Frag):Sp:=fun vs H Q _=>∃x lo,vs=[x,.int lo]/\Kd K H x/\Q (.bl (PB lo x)) H
noncomputable def Cu(K:W.Frag):Sp:=fun vs H Q _=>∃x lo hi,vs=[x,.int lo,.int hi]/\Kd K H x/\Q (.bl (cQ lo hi x)) H
noncomputable def Mg(K:W.Frag)(lo hi:Int):Sp:=fun vs H Q _=>∃x,vs=[x]/\Kd K H x/\Q (.bl (cQ lo hi x)) H
noncomputable abbrev Kp(K:W.Frag):Sp:=Mg K 0 15
noncomputable def Ji(K:W.Frag):Sp:=fun vs H Q _=>∃x,vs=[x]/\Kd K H x/\Q (.bl (cQ 1 24 x)) H
noncomputable def MJ(K:W.Frag)(lo hi:Int):Sp:=fun vs H Q _=>∃x,vs=[x]/\((∃a xs,x= .ref a/\H a=some (.lst xs)/\xs.length<=1000000/\(∀y∈xs,Kd K H y)/\∀H',aC H H'->Q (.bl (xs.all (cQ lo hi))) H')\/(Kd K H x/\JW H x=false/\Q (.bl false) H))
noncomputable def Dy(K:W.Frag)(fC:Addr)(lo hi:Int):Sp:=fun vs H Q E=>∃x,vs=[x,.ref fC]/\MJ K lo hi [x] H Q E
noncomputable abbrev Np(K:W.Frag)(fC:Addr):Sp:=Dy K fC 0 15
structure Txt(K:W.Frag)(mg:Str->Option Value)(cFE cC cN cM cP cL cB cD cZ:Addr)(tP tS tC tI:Tok):Prop where
 len:mg "len"=none
 range:mg "range"=none
 isinstance:mg "isinstance"=none
 int:mg "int"=none
 bool:mg "bool"=none
 list:mg "list"=none
 all:mg "all"=none
 enumerate:mg "enumerate"=none
 min:mg "min"=none
 max:mg "max"=none
 sum:mg "sum"=none
 tuple:mg "tuple"=none
 set:mg "set"=none
 sorted:mg "sorted"=none
 ValueError:mg "ValueError"=none
 MOST_PART:mg "MOST_PART"=some (.int 255 tP)
 MOST_COLOURS:mg "MOST_COLOURS"=some (.int 16 tS)
 MOST_CELL:mg "MOST_CELL"=some (.int 15 tC)
 MOST_SIDE:mg "MOST_SIDE"=some (.int 24 tI)
 FolioError:mg "FolioError"=some (.ref cFE)
 BadColour:mg "BadColour"=some (.ref cC)
 xBadColour:W.excIn K cC mroVE "ValueError.__new__"=true
 kC:pK K cC
 eC:W.exmOne K (.ref cC) (.ref cFE)=some true
 NoColour:mg "NoColour"=some (.ref cN)
 xNoColour:W.excIn K cN mroVE "ValueError.__new__"=true
 kN:pK K cN
 eN:W.exmOne K (.ref cN) (.ref cFE)=some true
 TooMany:mg "TooMany"=some (.ref cM)
 xTooMany:W.excIn K cM mroVE "ValueError.__new__"=true
 kM:pK K cM
 eM:W.exmOne K (.ref cM) (.ref cFE)=some true
 BadPalette:mg "BadPalette"=some (.ref cP)
 xBadPalette:W.excIn K cP mroVE "ValueError.__new__"=true
 kP:pK K cP
 eP:W.exmOne K (.ref cP) (.ref cFE)=some true
 BadPicture:mg "BadPicture"=some (.ref cB)
 xBadPicture:W.excIn K cB mroVE "ValueError.__new__"=true
 kB:pK K cB
 eB:W.exmOne K (.ref cB) (.ref cFE)=some true
 BadCell:mg "BadCell"=some (.ref cD)
 xBadCell:W.excIn K cD mroVE "ValueError.__new__"=true
 kD:pK K cD
 eD:W.exmOne K (.ref cD) (.ref cFE)=some true
 BadSize:mg "BadSize"=some (.ref cZ)
 xBadSize:W.excIn K cZ mroVE "ValueError.__new__"=true
 kZ:pK K cZ
 eZ:W.exmOne K (.ref cZ) (.ref cFE)=some true
 cl:GF K cL
 nK:qw K cL "kept"
 mgL:mg "Palette"=some (.ref cL)
 cA:W.findIn K (.ref cL) "__class__"=some (some (.builtin "object.__class__"))
 cG:W.specialIn K (.builtin "object.__class__") "__get__"=some (some (.builtin "getset_descriptor.__get__"))
 cT:W.takesIn K (.builtin "object.__class__")=some true
 cO:W.mroIn K cL (.type "object")=some true
 kL:W.kitOne K (.ref cL) (.ref cL)=some true
theorem KN:bootBuiltins "ValueError"=some (.type "ValueError"):=by decide+kernel
section
variable{P:Program}{w:World}{K:W.Frag}{mg:Str->Option Value}{base:Heap}{cFE cC cN cM cP cL cB cD cZ:Addr}{tP tS tC tI:Tok}
theorem sE:aL ["thing","least"] ["thing","least"] (aA jF):=by walk_at "s"
theorem mq{f:Addr}{fd:FuncData}(F:bf K "is_whole_from" "is_whole_from" jF .none f fd)(T:Txt K mg cFE cC cN cM cP cL cB cD cZ tP tS tC tI):bD P w K mg base gG 1 f fd ["thing","least"] (Qm K):=by
 refine F.ok sE (fun vs H Q E h=>?_) (fun cdv A outer s H vs Q E hr h=>?_)
 ·refine gP h fun x lo e2_ _=>?_;subst e2_;rfl
 ·refine dB h fun x lo e2_ kd k=>?_;subst e2_
  refine⟨_,(ao (bN (PW.pt (jw (cW (bU (sO K Z (pv 0) Z T.isinstance Z T.int PyProof.Rows.boot_int))) (iG (bU (sO K Z (pv 0) Z T.isinstance Z T.bool PyProof.Rows.boot_bool))))) (az (aN fM)) aX)
    (az (aN (jH HJ (pv 1) (pv 0) (aZ _))))),?_⟩
  have fl:PB lo x=false->Q (.bl false) H:=fun e=>by rw[e] at k;exact k
  refine bG _ Z _ kd.isInt _ Z (uc (fun hI=>(fl ?_)) (fun hI=>bG _ Z _ kd.isBool _ Z (nZ (fun hB=>(fl ?_)) (fun hB=>?_))))
  ·cases x<;>first | rfl | cases hI
  ·cases x<;>first | rfl | cases hB
  ·cases x with
   | int i=>exact fB _ Z (bC _ Z _ _ Z Z k)
   | bl b=>cases hB
   | _=>cases hI
theorem p8:aL ["thing","least","most"] ["thing","least","most"] (aA iU):=by walk_at "s"
theorem j4{f:Addr}{fd:FuncData}(F:bf K "is_whole_within" "is_whole_within" iU .none f fd)(g_is_whole_from:jA P w K mg base 1 "is_whole_from" ["thing","least"] [] (Qm K)):bD P w K mg base gG 2 f fd ["thing","least","most"] (Cu K):=by
 refine F.ok p8 (fun vs H Q E h=>?_) (fun cdv A outer s H vs Q E hr h=>?_)
 ·refine pM h fun x lo hi e3_ _=>?_;subst e3_;rfl
 ·refine oR h fun x lo hi e3_ kd k=>?_;subst e3_;refine⟨_,(az (aN (pX (aD g_is_whole_from (hr.mono (by decide)) Z (aa (pv 0) (aa (pv 1) aj))) (qm (jH HJ (pv 0) (pv 2) (aZ _)))))),?_⟩;refine bT _ Z _ Z (fZ x lo Z kd _ Z (nZ (fun h1=>?_) (fun h1=>?_)))
  ·cases x with
   | int i=>
    refine fB _ Z (bC _ Z _ _ Z Z ?_);have h2:decide (lo<=i)=true:=h1;simpa only[cQ,h2,Bool.true_and] using k
   | _=>cases h1
  ·have e:cQ lo hi x=false:=by
    cases x with
    | int i=>
     have h2:decide (lo<=i)=false:=h1;simp only[cQ,h2,Bool.false_and]
    | _=>rfl
   rw[e] at k;exact k
theorem Cd:aL ["thing"] ["thing"] (aA rW):=by walk_at "s"
theorem u5{f:Addr}{fd:FuncData}(F:bf K "is_cell" "is_cell" rW .none f fd)(T:Txt K mg cFE cC cN cM cP cL cB cD cZ tP tS tC tI)(g_is_whole_within:jA P w K mg base 2 "is_whole_within" ["thing","least","most"] [] (Cu K)):bD P w K mg base gG 3 f fd ["thing"] (Kp K):=by
 refine F.ok Cd (fun vs H Q E h=>?_) (fun cdv A outer s H vs Q E hr h=>?_)
 ·refine aO h fun x e1_ _=>?_;subst e1_;rfl
 ·refine bL h fun x e1_ kd k=>?_;subst e1_;refine⟨_,(az (aN (aD g_is_whole_within (hr.mono (by decide)) Z (aa (pv 0) (aa aq (aa (bY (v:= .int 15) Z T.MOST_CELL ⟨_,Z⟩) aj)))))),?_⟩;exact fB _ Z (iu x 0 15 Z kd k)
theorem Dg:aL ["thing"] ["thing"] (aA sH):=by walk_at "s"
theorem CZ{f:Addr}{fd:FuncData}(F:bf K "is_side" "is_side" sH .none f fd)(T:Txt K mg cFE cC cN cM cP cL cB cD cZ tP tS tC tI)(g_is_whole_within:jA P w K mg base 2 "is_whole_within" ["thing","least","most"] [] (Cu K)):bD P w K mg base gG 3 f fd ["thing"] (Ji K):=by
 refine F.ok Dg (fun vs H Q E h=>?_) (fun cdv A outer s H vs Q E hr h=>?_)
 ·refine aO h fun x e1_ _=>?_;subst e1_;rfl
 ·refine bL h fun x e1_ kd k=>?_;subst e1_;refine⟨_,(az (aN (aD g_is_whole_within (hr.mono (by decide)) Z (aa (pv 0) (aa aq (aa (bY (v:= .int 24) Z T.MOST_SIDE ⟨_,Z⟩) aj)))))),?_⟩;exact fB _ Z (iu x 1 24 Z kd k)
theorem j9{α:Type}(f:α->Bool)(xs:List α):(xs.map f).all id=xs.all f:=by
 induction xs with
 | nil=>rfl
 | cons x r ih=>rw[List.map_cons,List.all_cons,List.all_cons,ih];rfl
theorem cU{α:Type}(xs:List α):xs.filter (fun _=>true)=xs:=List.filter_eq_self.mpr fun _ _=>Z
theorem pU:aL ["thing","is_one"] ["thing","is_one"] (aA iQ):=by walk_at "s"
theorem wN{lo hi:Int}{fC f:Addr}{fd:FuncData}(F:bf K "is_list_of" "is_list_of" iQ .none f fd)(T:Txt K mg cFE cC cN cM cP cL cB cD cZ tP tS tC tI)(g_is_one:J9 P w K mg base 3 fC ["thing"] [] (Mg K lo hi)):bD P w K mg base gG 4 f fd ["thing","is_one"] (Dy K fC lo hi):=by
 refine F.ok pU (fun vs H Q E h=>?_) (fun cdv A outer s H vs Q E hr h=>?_)
 ·refine aO h fun x e1_ _=>?_;subst e1_;rfl
 ·refine JN h fun x e1_ x' p3_=>?_;subst e1_;obtain⟨ex,h⟩:=p3_;cases ex;refine⟨_,(az (aN (pX (sO K Z (pv 0) Z T.isinstance Z T.list PyProof.Rows.boot_list) (qm (aR (zc K Z Z) Z T.all PyProof.Rows.boot_all (aa (bH (N:=["part","is_one"]) (src:=[none,some 1]) Z ⟨Z,Z,Z,Z,Z,by decide+kernel⟩ (oY K Z (pv 0)) (fun s H C fp=>aJ (i:=0) (show(["part","is_one"]:List Str).Nodup by decide+kernel) Z (.inl Z)) (fun s H C fp=>bF) (fun s H C fp=>(zU 1 g_is_one (hr.mono (by decide)) (aa (pv 0) aj)))) aj)))))),?_⟩;rcases h with⟨a,xs,rfl,hH,hl,kds,k⟩ | ⟨kd,hL,k⟩
  ·refine bG _ Z true (je hH) _ Z (bc _ Z a Z ⟨_,aP.of hH⟩ fun D hD=>?_);refine bR (k:=0) (fun x=> .bl (cQ lo hi x)) (fun _=>true) (src_list (aP.of hH)) (Nat.le_trans hl (by decide)) hD (fun x _ H' Qb _ kk=>kk H' (aC.refl _)) (fun x hx _ H' Q sm kk=>⟨Z,bc _ Z x Z ((kds x hx).mono sm) (kk H' (aC.refl _))⟩) fun H' sm hD'=>?_;refine di D (xs.map (cQ lo hi)) Z (aP.of (by rw[hD',cU,List.map_map];rfl)) ?_;rw[j9];exact k H' sm
  ·refine bG _ Z _ kd.isList _ Z (nZ (fun z=>?_) (fun _=>k));rw[hL] at z;cases z
theorem Iz{n:Nat}(h1:1<=n)(h2:n<=24):cQ 1 24 (.int (n:Int))=true:=by simp only[cQ,Bool.and_eq_true,decide_eq_true_eq];omega
theorem Hk{ns:List Int}(h:∀c∈ns,0<=c/\c<=15):(ns.map V.int).all (cQ 0 15)=true:=by rw[List.all_map,List.all_eq_true];intro c hc;have:=h c hc;simp only[Function.comp,cQ,Bool.and_eq_true,decide_eq_true_eq];omega
theorem jJ{H:Hp}{ns:List Int}:∀y∈ns.map V.int,Kd K H y:=fun y hy=>by refine aO (List.mem_map.mp hy) fun n _ e2_=>?_;subst e2_;exact .int n
end
noncomputable def rowOf(H:Hp):V->Option (List V)
 | .ref b=>match H b with
  | some (.lst ys)=>some ys
  | _=>none
 | _=>none
noncomputable def Be(ys:List V):Bool:=ys.all (cQ 0 15)&&cQ 1 24 (.int (ys.length:Int))
noncomputable def jM(H:Hp)(x:V):Bool:=match rowOf H x with
 | some ys=>Be ys
 | none=>false
noncomputable def lenOf(H:Hp)(x:V):Nat:=match rowOf H x with
 | some ys=>ys.length
 | none=>0
noncomputable def mJ(H:Hp)(v:V):Bool:=match rowOf H v with
 | some xs=>cQ 1 24 (.int (xs.length:Int))&&(xs.all (jM H)&&xs.all fun x=>decide (lenOf H x=lenOf H (xs.headD .non)))
 | none=>false
structure Rw(K:W.Frag)(H:Hp)(x:V):Prop where
 kd:Kd K H x
 len:∀ys,rowOf H x=some ys->ys.length<=1000
 it:∀ys,rowOf H x=some ys->∀y∈ys,Kd K H y
structure Th(K:W.Frag)(H:Hp)(v:V):Prop where
 kd:Kd K H v
 len:∀xs,rowOf H v=some xs->xs.length<=1000
 it:∀xs,rowOf H v=some xs->∀x∈xs,Rw K H x
section
variable{K:W.Frag}{H H':Hp}{x:V}
theorem aV{a:Addr}{ys:List V}(e:H a=some (.lst ys)):rowOf H (.ref a)=some ys:=by simp only[rowOf,e]
theorem gh{ys:List V}(h:rowOf H x=some ys):∃a,x= .ref a/\H a=some (.lst ys):=by
 cases x with
 | ref a=>
  refine⟨a,Z,?_⟩;unfold rowOf at h
  dsimp only at h
  split at h
  ·rename_i zs e;cases h;exact e
  ·cases h
 | _=>cases h
theorem jX(k:Kd K H x)(s:aC H H'):rowOf H' x=rowOf H x:=by
 cases k with
 | lst e=>rw[aV e,aV (s _ _ e)]
 | tup e=>simp only[rowOf,e,s _ _ e]
 | dict e=>simp only[rowOf,e,s _ _ e,my]
 | _=>rfl
theorem zg(k:Kd K H x):JW H x=(rowOf H x).isSome:=by
 cases k with
 | lst e=>simp only[JW,rowOf,e];rfl
 | tup e=>simp only[JW,rowOf,e];rfl
 | dict e=>simp only[JW,rowOf,e,my];rfl
 | _=>rfl
theorem Rw.mono (r:Rw K H x) (s:aC H H'):Rw K H' x:=by have e:=jX r.kd s;exact⟨r.kd.mono s,fun ys h=>r.len ys (by rw[<-e];exact h),fun ys h y hy=>(r.it ys (by rw[<-e];exact h) y hy).mono s⟩
theorem Th.mono (t:Th K H x) (s:aC H H'):Th K H' x:=by have e:=jX t.kd s;exact⟨t.kd.mono s,fun ys h=>t.len ys (by rw[<-e];exact h),fun ys h y hy=>(t.it ys (by rw[<-e];exact h) y hy).mono s⟩
theorem rJ(k:Kd K H x)(s:aC H H'):jM H' x=jM H x:=by unfold jM;rw[jX k s]
theorem ni(k:Kd K H x)(s:aC H H'):lenOf H' x=lenOf H x:=by unfold lenOf;rw[jX k s]
theorem Gp(t:Th K H x)(s:aC H H'):mJ H' x=mJ H x:=by
 unfold mJ;rw[jX t.kd s];cases h:rowOf H x with
 | none=>rfl
 | some xs=>
  dsimp only
  have e1:xs.all (jM H')=xs.all (jM H):=by
   rw[Bool.eq_iff_iff,List.all_eq_true,List.all_eq_true];constructor
   ·intro h2 y hy;rw[<-rJ (t.it xs h y hy).kd s];exact h2 y hy
   ·intro h2 y hy;rw[rJ (t.it xs h y hy).kd s];exact h2 y hy
  have e2:(xs.all fun y=>decide (lenOf H' y=lenOf H' (xs.headD .non)))=(xs.all fun y=>decide (lenOf H y=lenOf H (xs.headD .non))):=by
   cases xs with
   | nil=>rfl
   | cons z r=>
    have hz:lenOf H' z=lenOf H z:=ni (t.it _ h z List.mem_cons_self).kd s;rw[Bool.eq_iff_iff,List.all_eq_true,List.all_eq_true];constructor
    ·intro h2 y hy;have q:decide (lenOf H' y=lenOf H' z)=true:=h2 y hy;have q':=of_decide_eq_true q;rw[ni (t.it _ h y hy).kd s,hz] at q';exact decide_eq_true q'
    ·intro h2 y hy;have q:decide (lenOf H y=lenOf H z)=true:=h2 y hy;have q':=of_decide_eq_true q;refine decide_eq_true ?_;show lenOf H' y=lenOf H' z;rw[ni (t.it _ h y hy).kd s,hz];exact q'
  rw[e1,e2]
end
noncomputable def JH(K:W.Frag):Sp:=fun vs H Q _=>∃x,vs=[x]/\Th K H x/\∀H',aC H H'->Q (.bl (mJ H x)) H'
noncomputable def Jg(K:W.Frag)(fC:Addr):Sp:=fun vs H Q E=>∃x,vs=[x,.ref fC]/\JH K [x] H Q E
noncomputable def IV(K:W.Frag)(cB:Addr):Sp:=fun vs H Q E=>∃x,vs=[x]/\Th K H x/\(mJ H x=true->∀H',aC H H'->Q .non H')/\(mJ H x=false->∀H',aC H H'->E (.ref cB) none H')
section
variable{P:Program}{w:World}{K:W.Frag}{mg:Str->Option Value}{base:Heap}{cFE cC cN cM cP cL cB cD cZ:Addr}{tP tS tC tI:Tok}
theorem K4{v:V}(h:cQ 1 24 v=true):∃w:Nat,v= .int (w:Int)/\1<=w/\w<=24:=by
 cases v with
 | int i=>
  simp only[cQ,Bool.and_eq_true,decide_eq_true_eq] at h;exact dU i.toNat (by rw[Int.toNat_of_nonneg (by omega)]) (by omega) (by omega)
 | _=>cases h
theorem Ky{xs:List V}(h:0<xs.length):xs[0]? =some (xs.headD .non):=by
 cases xs with
 | nil=>simp at h
 | cons x r=>rfl
theorem vC:aL ["thing","is_one"] ["thing","is_one"] (aA lR):=by walk_at "s"
theorem uV{fC f:Addr}{fd:FuncData}(F:bf K "are_rows_of" "are_rows_of" lR .none f fd)(T:Txt K mg cFE cC cN cM cP cL cB cD cZ tP tS tC tI)(g_is_list_of:jA P w K mg base 4 "is_list_of" ["thing","is_one"] [] (Np K fC))(g_is_side:jA P w K mg base 3 "is_side" ["thing"] [] (Ji K)):bD P w K mg base gG 5 f fd ["thing","is_one"] (Jg K fC):=by
 refine F.ok vC (fun vs H Q E h=>?_) (fun cdv A outer s H vs Q E hr h=>?_)
 ·refine aO h fun x e1_ _=>?_;subst e1_;rfl
 ·refine JN h fun x e1_ x' p3_=>?_;subst e1_;obtain⟨ex,th,k⟩:=p3_;cases ex
  refine⟨_,(ao (bN (PW.pt (jw (cW (bU (sO K Z (pv 0) Z T.isinstance Z T.list PyProof.Rows.boot_list))) (iG (cW (bU (aD g_is_side (hr.mono (by decide)) Z (aa (aR (nH K Z) Z T.len PySem.boot_len (aa (pv 0) aj)) aj))))))) (az (aN fM)) aX)
    (ao (bN (cW (bU (aR (zc K Z Z) Z T.all PyProof.Rows.boot_all (aa (bH (N:=["row","is_one"]) (src:=[none,some 1]) Z ⟨Z,Z,Z,Z,Z,by decide+kernel⟩ (oY K Z (pv 0)) (fun s H C fp=>aJ (i:=0) (show(["row","is_one"]:List Str).Nodup by decide+kernel) Z (.inl Z)) (fun s H C fp=>bF) (fun s H C fp=>(pX (aD g_is_list_of (hr.mono (by decide)) Z (aa (pv 0) (aa (pv 1) aj))) (qm (aD g_is_side (hr.mono (by decide)) Z (aa (aR (nH K Z) Z T.len PySem.boot_len (aa (pv 0) aj)) aj)))))) aj)))) (az (aN fM)) aX)
    (az (aN (aR (zc K Z Z) Z T.all PyProof.Rows.boot_all (aa (bH (N:=["row","thing"]) (src:=[none,some 0]) Z ⟨Z,Z,Z,Z,Z,by decide+kernel⟩ (oY K Z (pv 0)) (fun s H C fp=>aJ (i:=0) (show(["row","thing"]:List Str).Nodup by decide+kernel) Z (.inl Z)) (fun s H C fp=>bF) (fun s H C fp=>(jH nC (aR (nH K Z) Z T.len PySem.boot_len (aa (pv 0) aj)) (aR (nH K Z) Z T.len PySem.boot_len (aa (bw (lJ K Z) (pv 1) aq (fun _ _=>Z)) aj)) (aZ _)))) aj)))))),?_⟩
  cases hx:rowOf H x with
  | none=>
   have ek:mJ H x=false:=by unfold mJ;rw[hx]
   rw[ek] at k;refine bG _ Z _ th.kd.isList _ Z ?_;rw[zg th.kd,hx];exact k H (aC.refl H)
  | some xs=>
   refine aO (gh hx) fun a e1_ e=>?_;subst e1_;have ek:mJ H (.ref a)=(cQ 1 24 (.int (xs.length:Int))&&(xs.all (jM H)&&xs.all fun x=>decide (lenOf H x=lenOf H (xs.headD .non)))):=by unfold mJ;rw[hx]
   rw[ek] at k;have hz:xs.length<=sizeLine:=Nat.le_trans (th.len xs hx) (by decide);refine bG _ Z true (je e) _ Z (bC _ Z a _ Z (.inl (aP.of e)) (dz _ Z (.int _) _ Z (uc (fun h1=>?_) (fun h1=>?_))))
   ·rw[h1,Bool.false_and] at k;exact k H (aC.refl H)
   rw[h1,Bool.true_and] at k;refine bc _ Z a Z ⟨_,aP.of e⟩ fun D hD=>?_;refine bR (k:=0) (fun y=> .bl (jM H y)) (fun _=>true) (src_list (aP.of e)) hz hD (fun x _ H' Qb _ kk=>kk H' (aC.refl _)) (fun y hy _ H' Q' sm kk=>?_) fun H1 s1 hD1=>?_
   ·have r1:=th.it xs hx y hy;have r2:=r1.mono sm;have k2:∀H2,aC H' H2->Q' (.bl (jM H' y)) H2:=fun H2 s2=>by rw[rJ r1.kd sm];exact kk H2 s2
    refine fB _ Z (bG _ Z y Z y Z ?_);cases hr0:rowOf H' y with
    | none=>
     refine .inr (tR r2.kd (by rw[zg r2.kd,hr0];rfl) _ Z ?_);have:=k2 H' (aC.refl H');unfold jM at this;rw[hr0] at this;exact this
    | some ys=>
     refine aO (gh hr0) fun b e1_ e2=>?_;subst e1_;have ek:jM H' (.ref b)=Be ys:=by unfold jM;rw[hr0]
     refine .inl (gJ b ys Z e2 (Nat.le_trans (r2.len ys hr0) (by decide)) (r2.it ys hr0) fun H1 s1=>⟨_,Z,nZ (fun h1=>?_) (fun h1=>?_)⟩)
     ·refine bC _ Z b _ Z (.inl (aP.of (s1 _ _ e2))) (dU _ Z (.int _) ?_);have:=k2 H1 s1;rw[ek] at this;unfold Be at this;rw[h1,Bool.true_and] at this;exact this
     ·have:=k2 H1 s1;rw[ek] at this;unfold Be at this;rw[h1,Bool.false_and] at this;exact this
   refine fZ D (xs.map (jM H)) Z (aP.of (by rw[hD1,cU,List.map_map];rfl)) _ Z ?_;rw[j9];refine uc (fun h2=>?_) (fun h2=>?_)
   ·rw[h2,Bool.false_and] at k;exact k H1 s1
   rw[h2,Bool.true_and] at k
   have hpos:0<xs.length:=by
    refine bL (K4 h1) fun n en n1 _=>?_;injection en with en
    omega
   have lst:∀y∈xs,∃b ys,y= .ref b/\H b=some (.lst ys)/\lenOf H y=ys.length:=fun y hy=>by
    have q:=List.all_eq_true.mp h2 y hy;unfold jM at q;cases hy2:rowOf H y with
    | none=>rw[hy2] at q;cases q
    | some ys=>
     refine aO (gh hy2) fun b e1_ e2=>?_;subst e1_;exact di b ys Z e2 (by unfold lenOf;rw[hy2])
   refine dB (lst (xs.headD .non) (by cases xs with | nil=>simp at hpos | cons z r=>exact List.mem_cons_self)) fun b0 y0 eh e0 l0=>?_;refine bc _ Z a Z ⟨_,aP.of (s1 _ _ e)⟩ fun D2 hD2=>?_;refine bR (k:=0) (fun y=> .bl (decide (lenOf H y=lenOf H (xs.headD .non)))) (fun _=>true) (src_list (aP.of (s1 _ _ e))) hz hD2 (fun x _ H' Qb _ kk=>kk H' (aC.refl _)) (fun y hy _ H' Q' sm kk=>?_) fun H2 s2 hD2'=>?_
   ·have sm2:=s1.trans sm;refine dB (lst y hy) fun b ys e2_ e2 l2=>?_;subst e2_;refine bC _ Z b _ Z (.inl (aP.of (sm2 _ _ e2))) (bh _ Z a _ _ _ Z Z (aP.of (sm2 _ _ e)) (aQ (j:=0) (Ky hpos)) (cR b0 _ (eh▸Z) (.inl (aP.of (sm2 _ _ e0))) Z ?_))
    have ed:decide (V.int (ys.length:Int)=V.int (y0.length:Int))=decide (lenOf H (.ref b)=lenOf H (xs.headD .non)):=by rw[l2,l0,yV,Bool.eq_iff_iff];simp;omega
    rw[ed];exact kk H' (aC.refl _)
   ·refine di D2 (xs.map fun y=>decide (lenOf H y=lenOf H (xs.headD .non))) Z (aP.of (by rw[hD2',cU,List.map_map];rfl)) ?_;rw[j9];exact k H2 (s1.trans s2)
theorem wX:aL ["thing"] ["thing"] (aA mY):=by walk_at "s"
theorem wC{fC f:Addr}{fd:FuncData}(F:bf K "is_picture" "is_picture" mY .none f fd)(hC:mg "is_cell"=some (.ref fC))(g_are_rows_of:jA P w K mg base 5 "are_rows_of" ["thing","is_one"] [] (Jg K fC)):bD P w K mg base gG 6 f fd ["thing"] (JH K):=by
 refine F.ok wX (fun vs H Q E h=>?_) (fun cdv A outer s H vs Q E hr h=>?_)
 ·refine aO h fun x e1_ _=>?_;subst e1_;rfl
 ·refine bL h fun x e1_ th k=>?_;subst e1_;refine⟨_,(az (aN (aD g_are_rows_of (hr.mono (by decide)) Z (aa (pv 0) (aa (bY (v:= .ref fC) Z hC Z) aj))))),?_⟩;exact fB _ Z (bc x Z x Z th k)
theorem ue:aL ["picture"] ["picture"] (aA j5):=by walk_at "s"
theorem ud{f:Addr}{fd:FuncData}(F:bf K "need_picture" "need_picture" j5 .none f fd)(T:Txt K mg cFE cC cN cM cP cL cB cD cZ tP tS tC tI)(g_is_picture:jA P w K mg base 6 "is_picture" ["thing"] [] (JH K)):bD P w K mg base (kj P w) 7 f fd ["picture"] (IV K cB):=by
 refine F.okX ue (fun vs H Q E h=>?_) (fun cdv A outer s H vs Q E hr h=>?_)
 ·refine aO h fun x e1_ _=>?_;subst e1_;rfl
 ·refine kE h fun x e1_ th kY kN=>?_;subst e1_;refine⟨_,(az (bN (cW (bU (aD g_is_picture (hr.mono (by decide)) Z (aa (pv 0) aj)))) (az (jo Z lq Z T.BadPicture T.xBadPicture (aa dC aj))) aX)),?_⟩;exact bc _ Z x Z th fun H' sm=>⟨_,Z,uc (fun h=>⟨uC,kN h H' sm⟩) (fun h=>kY h H' sm)⟩
end
set_option maxHeartbeats 1600000
theorem Ka{X:Cx}{tg:Expr}(K:W.Frag)(h:X.K=K){e:Expr}{te:TE}(he:PE X e te):PI X tg e (Qe K te):=by subst h;exact M9 he
theorem tV{X:Cx}(K:W.Frag)(h:X.K=K):Qa X (Qo K):=by subst h;exact Nh
theorem Le{K:W.Frag}{a:Addr}{xs:List V}{H:Hp}(h:d7 K H a xs):Src (Oo K a) xs H:=fun H' sm=>
 ⟨fun i x e=>⟨mF xs x (sm.seqT h) e,fun y H2 ⟨q1,q2⟩=>⟨by have:=q2 xs (sm.seqT h);rw[e] at this;exact(Option.some.inj this).symm,q1⟩⟩,⟨xs,sm.seqT h,Nat.le_refl _⟩⟩
noncomputable def gj(H:Hp):V->Option (List V)
 | .ref b=>match H b with
  | some (.tup xs)=>some xs
  | _=>none
 | _=>none
noncomputable def jR(H:Hp)(v:V):Bool:=match gj H v with
 | some xs=>decide (xs.length=3)&&xs.all (cQ 0 255)
 | none=>false
structure TC(K:W.Frag)(H:Hp)(v:V):Prop where
 kd:Kd K H v
 len:∀xs,gj H v=some xs->xs.length<=1000
 it:∀xs,gj H v=some xs->∀x∈xs,Kd K H x
section
variable{K:W.Frag}{H H':Hp}{v:V}
theorem jQ{a:Addr}{xs:List V}(e:H a=some (.tup xs)):gj H (.ref a)=some xs:=by simp only[gj,e]
theorem xn{xs:List V}(h:gj H v=some xs):∃a,v= .ref a/\H a=some (.tup xs):=by
 cases v with
 | ref a=>
  simp only[gj] at h;cases e:H a with
  | none=>rw[e] at h;cases h
  | some o=>
   rw[e] at h;cases o with
   | tup ys=>cases h;exact⟨a,Z,e⟩
   | _=>cases h
 | _=>cases h
theorem vf(k:Kd K H v)(s:aC H H'):gj H' v=gj H v:=by
 cases k with
 | lst e=>simp only[gj,e,s _ _ e]
 | tup e=>simp only[gj,e,s _ _ e]
 | dict e=>simp only[gj,e,s _ _ e,my]
 | _=>rfl
theorem Ef(k:Kd K H v):JR H v=(gj H v).isSome:=by
 cases k with
 | lst e=>simp only[JR,gj,e];rfl
 | tup e=>simp only[JR,gj,e];rfl
 | dict e=>simp only[JR,gj,e,my];rfl
 | _=>rfl
theorem TC.mono (t:TC K H v) (s:aC H H'):TC K H' v:=by have e:=vf t.kd s;exact⟨t.kd.mono s,fun xs h=>t.len xs (by rw[<-e];exact h),fun xs h x hx=>(t.it xs (by rw[<-e];exact h) x hx).mono s⟩
theorem rC(t:TC K H v)(s:aC H H'):jR H' v=jR H v:=by unfold jR;rw[vf t.kd s]
theorem TC.tup {a:Addr} {xs:List V} (e:H a=some (.tup xs)) (hl:xs.length<=1000) (hk:∀x∈xs,Kd K H x):TC K H (.ref a):=
 ⟨.tup e,fun ys h=>(by rw[jQ e] at h;cases h;exact hl),fun ys h=>(by rw[jQ e] at h;cases h;exact hk)⟩
end
structure jD(H:Hp)(a:Addr)(r g b:Nat):Prop where
 top:H a=some (.tup [.int (r:Int),.int (g:Int),.int (b:Int)])
 lr:r<=255
 lg:g<=255
 lb:b<=255
section
variable{K:W.Frag}{H H':Hp}{a:Addr}{r g b:Nat}
theorem jD.mono (c:jD H a r g b) (s:aC H H'):jD H' a r g b:=⟨s _ _ c.top,c.lr,c.lg,c.lb⟩
theorem jD.tc (c:jD H a r g b):TC K H (.ref a):=TC.tup c.top (by show 3<=1000;decide) fun x hx=>by simp only[List.mem_cons,List.not_mem_nil,or_false] at hx;rcases hx with rfl | rfl | rfl<;>exact .int _
theorem Jw{n:Nat}(h:n<=255):cQ 0 255 (.int (n:Int))=true:=by simp only[cQ,Bool.and_eq_true,decide_eq_true_eq];omega
theorem jD.yes (c:jD H a r g b):jR H (.ref a)=true:=by unfold jR;rw[jQ c.top];simp only[List.all_cons,List.all_nil,Jw c.lr,Jw c.lg,Jw c.lb];rfl
theorem zj{lo hi:Nat}{v:V}(h:cQ lo hi v=true):∃n:Nat,v= .int (n:Int)/\lo<=n/\n<=hi:=by
 cases v with
 | int i=>
  simp only[cQ,Bool.and_eq_true,decide_eq_true_eq] at h;exact dU i.toNat (by congr 1;omega) (by omega) (by omega)
 | _=>cases h
theorem zF{v:V}(h:jR H v=true):∃a r g b,v= .ref a/\jD H a r g b:=by
 unfold jR at h;cases hx:gj H v with
 | none=>rw[hx] at h;cases h
 | some xs=>
  rw[hx] at h;refine aO (xn hx) fun a e1_ e=>?_;subst e1_;have h:=Bool.and_eq_true_iff.mp h;have hl:=of_decide_eq_true h.1
  obtain⟨x,y,z,rfl⟩:∃x y z,xs=[x,y,z]:=by
   match xs,hl with
   | [x,y,z],_=>exact Oe x y z Z
  simp only[List.all_cons,List.all_nil,Bool.and_true,Bool.and_eq_true] at h;refine bL (zj (lo:=0) (hi:=255) h.2.1) fun r e1_ _ lr=>?_;subst e1_;refine bL (zj (lo:=0) (hi:=255) h.2.2.1) fun g e1_ _ lg=>?_;subst e1_;refine bL (zj (lo:=0) (hi:=255) h.2.2.2) fun b e1_ _ lb=>?_;subst e1_;exact N5 a r g b Z ⟨e,lr,lg,lb⟩
theorem jD.inj {r' g' b':Nat} (c:jD H a r g b) (c':jD H a r' g' b'):r=r'/\g=g'/\b=b':=by have e:=c.top;rw[c'.top] at e;simp only[Option.some.injEq,HO.tup.injEq,List.cons.injEq,V.int.injEq,and_true] at e;omega
end
noncomputable def yX(K:W.Frag):Sp:=fun vs H Q _=>∃v,vs=[v]/\TC K H v/\∀H',aC H H'->Q (.bl (jR H v)) H'
noncomputable def yQ(K:W.Frag)(cC:Addr):Sp:=fun vs H Q E=>∃v,vs=[v]/\TC K H v/\(jR H v=true->∀H',aC H H'->Q .non H')/\(jR H v=false->∀H',aC H H'->E (.ref cC) none H')
noncomputable def zJ(x y:Nat):Int:=((x:Int) - (y:Int)) ^ 2
noncomputable def qP(r g b r' g' b':Nat):Int:=[zJ r r',zJ g g',zJ b b'].sum
noncomputable def bA(H:Hp)(a:Addr)(cs:List (C4)):Prop:=H a=some (.lst (cs.map fun c=>V.ref c.1))/\∀c∈cs,jD H c.1 c.2.1 c.2.2.1 c.2.2.2
theorem bA.mono {H H':Hp} {a:Addr} {cs:List (C4)} (v:bA H a cs) (s:aC H H'):bA H' a cs:=⟨s _ _ v.1,fun c hc=>(v.2 c hc).mono s⟩
theorem DW{H:Hp}:∀{xs:List V},xs.all (jR H)=true->∃cs:List (C4),xs=cs.map (fun c=>V.ref c.1)/\∀c∈cs,jD H c.1 c.2.1 c.2.2.1 c.2.2.2
 | [],_=>⟨[],Z,fun c hc=>nomatch hc⟩
 | x::r,h=>by
  rw[List.all_cons,Bool.and_eq_true] at h;refine gn (zF h.1) fun a p q s e4_ c=>?_;subst e4_;refine aO (DW h.2) fun cs e1_ hc=>?_;subst e1_;refine⟨(a,p,q,s)::cs,Z,fun d hd=>?_⟩;rcases List.mem_cons.mp hd with rfl | hd
  ·exact c
  ·exact hc d hd
theorem bA.yes {H:Hp} {a:Addr} {cs:List (C4)} (v:bA H a cs):(cs.map fun c=>V.ref c.1).all (jR H)=true:=by rw[List.all_eq_true];intro x hx;refine aO (List.mem_map.mp hx) fun c hc e2_=>?_;subst e2_;exact(v.2 c hc).yes
noncomputable def Iu(K:W.Frag)(fC:Addr):Sp:=fun vs H Q _=>∃x,vs=[x,.ref fC]/\((∃a xs,x= .ref a/\H a=some (.lst xs)/\xs.length<=1000000/\(∀y∈xs,TC K H y)/\∀H',aC H H'->Q (.bl (xs.all (jR H))) H')\/(Kd K H x/\JW H x=false/\Q (.bl false) H))
section
variable{P:Program}{w:World}{K:W.Frag}{mg:Str->Option Value}{base:Heap}{cFE cC cN cM cP cL cB cD cZ:Addr}{tP tS tC tI:Tok}
theorem zp:aL ["thing"] ["thing"] (aA oH):=by walk_at "s"
theorem nu{f:Addr}{fd:FuncData}(F:bf K "is_colour" "is_colour" oH .none f fd)(T:Txt K mg cFE cC cN cM cP cL cB cD cZ tP tS tC tI)(g_is_whole_within:jA P w K mg base 2 "is_whole_within" ["thing","least","most"] [] (Cu K)):bD P w K mg base gG 3 f fd ["thing"] (yX K):=by
 refine F.ok zp (fun vs H Q E h=>?_) (fun cdv A outer s H vs Q E hr h=>?_)
 ·refine aO h fun v e1_ _=>?_;subst e1_;rfl
 ·refine bL h fun v e1_ t k=>?_;subst e1_
  refine⟨_,(ao (bN (PW.pt (jw (cW (bU (sO K Z (pv 0) Z T.isinstance Z T.tuple PyProof.Rows.boot_tuple))) (iG (aW xg (aR (nH K Z) Z T.len PySem.boot_len (aa (pv 0) aj)) aq (aZ _))))) (az (aN fM)) aX)
    (az (aN (aR (zc K Z Z) Z T.all PyProof.Rows.boot_all (aa (bH (N:=["part"]) (src:=[none]) Z ⟨Z,Z,Z,Z,Z,by decide+kernel⟩ (Ka K Z (pv 0)) (fun s H C fp=>aJ (i:=0) (show(["part"]:List Str).Nodup by decide+kernel) Z (.inl Z)) (fun s H C fp=>bF) (fun s H C fp=>(aD g_is_whole_within (hr.mono (by decide)) Z (aa (pv 0) (aa aq (aa (bY (v:= .int 255) Z T.MOST_PART ⟨_,Z⟩) aj)))))) aj))))),?_⟩
  cases hx:gj H v with
  | none=>
   have e:jR H v=false:=by unfold jR;rw[hx]
   rw[e] at k;refine bG _ Z _ t.kd.isTuple _ Z ?_;rw[Ef t.kd,hx];exact k H (aC.refl H)
  | some xs=>
   refine aO (xn hx) fun a e1_ e=>?_;subst e1_;have eb:jR H (.ref a)=(decide (xs.length=3)&&xs.all (cQ 0 255)):=by unfold jR;rw[hx]
   rw[eb] at k;refine bG _ Z _ t.kd.isTuple _ Z ?_;rw[Ef t.kd,hx];refine aM _ Z a _ Z (.inr (d7.of e)) Z (fB _ Z (uc (fun h=>?_) (fun h=>?_)))
   ·have:xs.length≠3:=fun z=>of_decide_eq_false h (by rw[z];rfl);rw[decide_eq_false this,Bool.false_and] at k;exact k H (aC.refl H)
   have h3:xs.length=3:=by
    have:=of_decide_eq_true h;injection this with this
    omega
   rw[decide_eq_true h3,Bool.true_and] at k;refine bc _ Z a Z ⟨_,d7.of e⟩ fun D hD=>?_;refine bR (k:=0) (fun x=> .bl (cQ 0 255 x)) (fun _=>true) (Le (d7.of e)) (by rw[h3];decide) hD (fun x _ H' Qb _ kk=>kk H' (aC.refl _)) (fun x hx2 _ H' Q' sm kk=>fB _ Z (iu x 0 255 Z ((t.it xs hx x hx2).mono sm) (kk H' (aC.refl _)))) fun H1 s1 hD1=>?_;refine di D (xs.map (cQ 0 255)) Z (aP.of (by rw[hD1,cU,List.map_map];rfl)) ?_;rw[j9];exact k H1 s1
theorem u9:aL ["colour"] ["colour"] (aA lV):=by walk_at "s"
theorem oK{f:Addr}{fd:FuncData}(F:bf K "need_colour" "need_colour" lV .none f fd)(T:Txt K mg cFE cC cN cM cP cL cB cD cZ tP tS tC tI)(g_is_colour:jA P w K mg base 3 "is_colour" ["thing"] [] (yX K)):bD P w K mg base (kj P w) 4 f fd ["colour"] (yQ K cC):=by
 refine F.okX u9 (fun vs H Q E h=>?_) (fun cdv A outer s H vs Q E hr h=>?_)
 ·refine aO h fun v e1_ _=>?_;subst e1_;rfl
 ·refine kE h fun v e1_ t kY kN=>?_;subst e1_;refine⟨_,(az (bN (cW (bU (aD g_is_colour (hr.mono (by decide)) Z (aa (pv 0) aj)))) (az (jo Z lq Z T.BadColour T.xBadColour (aa dC aj))) aX)),?_⟩;exact bc _ Z v Z t fun H1 s1=>⟨_,Z,uc (fun h=>⟨uC,kN h H1 s1⟩) (fun h=>kY h H1 s1)⟩
theorem rB{fC f:Addr}{fd:FuncData}(F:bf K "is_list_of" "is_list_of" iQ .none f fd)(T:Txt K mg cFE cC cN cM cP cL cB cD cZ tP tS tC tI)(g_is_one:J9 P w K mg base 3 fC ["thing"] [] (yX K)):bD P w K mg base gG 4 f fd ["thing","is_one"] (Iu K fC):=by
 refine F.ok pU (fun vs H Q E h=>?_) (fun cdv A outer s H vs Q E hr h=>?_)
 ·refine aO h fun x e1_ _=>?_;subst e1_;rfl
 ·obtain⟨x,rfl,h⟩:=h;refine⟨_,(az (aN (pX (sO K Z (pv 0) Z T.isinstance Z T.list PyProof.Rows.boot_list) (qm (aR (zc K Z Z) Z T.all PyProof.Rows.boot_all (aa (bH (N:=["part","is_one"]) (src:=[none,some 1]) Z ⟨Z,Z,Z,Z,Z,by decide+kernel⟩ (oY K Z (pv 0)) (fun s H C fp=>aJ (i:=0) (show(["part","is_one"]:List Str).Nodup by decide+kernel) Z (.inl Z)) (fun s H C fp=>bF) (fun s H C fp=>(zU 1 g_is_one (hr.mono (by decide)) (aa (pv 0) aj)))) aj)))))),?_⟩;rcases h with⟨a,xs,rfl,hH,hl,kds,k⟩ | ⟨kd,hL,k⟩
  ·refine bG _ Z true (je hH) _ Z (bc _ Z a Z ⟨_,aP.of hH⟩ fun D hD=>?_);refine bR (k:=0) (fun x=> .bl (jR H x)) (fun _=>true) (src_list (aP.of hH)) (Nat.le_trans hl (by decide)) hD (fun x _ H' Qb _ kk=>kk H' (aC.refl _)) (fun x hx _ H' Q sm kk=>⟨Z,bc _ Z x Z ((kds x hx).mono sm) fun H2 s2=>(by rw[rC (kds x hx) sm];exact kk H2 s2)⟩) fun H' sm hD'=>?_;refine di D (xs.map (jR H)) Z (aP.of (by rw[hD',cU,List.map_map];rfl)) ?_;rw[j9];exact k H' sm
  ·refine bG _ Z _ kd.isList _ Z (nZ (fun z=>?_) (fun _=>k));rw[hL] at z;cases z
end
structure TM(K:W.Frag)(H:Hp)(v:V):Prop where
 kd:Kd K H v
 len:∀xs,rowOf H v=some xs->xs.length<=1000000
 it:∀xs,rowOf H v=some xs->∀x∈xs,TC K H x
noncomputable def kc(c:C4):List Int:=[(c.2.1:Int),(c.2.2.1:Int),(c.2.2.2:Int)]
noncomputable def fW(cL:Addr)(H:Hp)(p l:Addr)(cs:List (C4)):Prop:=(∃dx,H p=some (.ins cL dx [("kept",.ref l)]))/\bA H l cs
noncomputable def LQ(H:Hp)(v:V):Prop:=∃a cs,v= .ref a/\bA H a cs/\1<=cs.length/\cs.length<=16/\(cs.map kc).Nodup
noncomputable def isC(r g b:Nat)(c:C4):Bool:=decide (c.2=(r,g,b))
noncomputable def vp(cs:List (C4))(r g b:Nat):V:=match cs.findIdx? (isC r g b) with
 | some j=> .int (j:Int)
 | none=> .non
noncomputable def rM(K:W.Frag)(cP cL:Addr):Sp:=fun vs H Q E=>∃p dx v,vs=[.ref p,v]/\H p=some (.ins cL dx [])/\TM K H v/\
 (∀a cs,v= .ref a->bA H a cs->1<=cs.length->cs.length<=16->(cs.map kc).Nodup->∀l H',H l=none->(∀b o,H b=some o->b≠p->H' b=some o)->fW cL H' p l cs->Q .non H')/\
 (¬LQ H v->∀H',aC H H'->E (.ref cP) none H')
noncomputable def yR(cL:Addr):Sp:=fun vs H Q _=>∃p l cs,vs=[.ref p]/\fW cL H p l cs/\∀q,H q=none->Q (.ref q) (upd H q (.lst (cs.map fun c=>V.ref c.1)))
noncomputable def vJ(cL:Addr):Sp:=fun vs H Q _=>∃p l cs,vs=[.ref p]/\fW cL H p l cs/\Q (.int (cs.length:Int)) H
noncomputable def oZ(K:W.Frag)(cN cL:Addr):Sp:=fun vs H Q E=>∃p l cs v,vs=[.ref p,v]/\fW cL H p l cs/\Kd K H v/\(∀(n:Nat) c,v= .int (n:Int)->cs[n]? =some c->Q (.ref c.1) H)/\(cQ 0 ((cs.length:Int) - 1) v=false->E (.ref cN) none H)
noncomputable def Bj(K:W.Frag)(cC cL:Addr):Sp:=fun vs H Q E=>∃p l cs v,vs=[.ref p,v]/\fW cL H p l cs/\TC K H v/\(∀a r g b,v= .ref a->jD H a r g b->∀H',aC H H'->Q (vp cs r g b) H')/\(jR H v=false->∀H',aC H H'->E (.ref cC) none H')
noncomputable def Hn(K:W.Frag)(cC cM cL:Addr):Sp:=fun vs H Q E=>∃p l cs v,vs=[.ref p,v]/\fW cL H p l cs/\cs.length<=16/\TC K H v/\
 (∀a r g b,v= .ref a->jD H a r g b->(∀j,cs.findIdx? (isC r g b)=some j->∀H',aC H H'->Q (.int (j:Int)) H')/\(cs.findIdx? (isC r g b)=none->cs.length=16->∀H',aC H H'->E (.ref cM) none H')/\
  (cs.findIdx? (isC r g b)=none->cs.length<16->∀H',(∀b o,H b=some o->b≠l->H' b=some o)->H' l=some (.lst (cs.map (fun c=>V.ref c.1)++[V.ref a]))->Q (.int (cs.length:Int)) H'))/\
 (jR H v=false->∀H',aC H H'->E (.ref cC) none H')
theorem fW.mono {cL:Addr} {H H':Hp} {p l:Addr} {cs:List (C4)} (v:fW cL H p l cs) (s:aC H H'):fW cL H' p l cs:=by obtain⟨⟨dx,h⟩,c⟩:=v;exact⟨⟨dx,s _ _ h⟩,c.mono s⟩
theorem bA.tups {H:Hp} {cs:List (C4)} (h:∀c∈cs,jD H c.1 c.2.1 c.2.2.1 c.2.2.2):m9 H (cs.map fun c=>V.ref c.1) (cs.map kc):=by
 induction cs with
 | nil=>exact .nil
 | cons c cs ih=>
  obtain⟨a,r,g,b⟩:=c;exact .cons (h _ List.mem_cons_self).top (ih fun c hc=>h c (List.mem_cons_of_mem _ hc))
theorem dM{l:Addr}{m:Str}(h:¬(m="kept")):([("kept",V.ref l)]:List (Str×V)).lookup m=none:=by show(nO "kept" (V.ref l) []).lookup m=none;rw[kW,if_neg h];rfl
theorem lW{l:Addr}:([("kept",V.ref l)]:List (Str×V)).lookup ("kept":Str)=some (V.ref l):=by show(nO "kept" (V.ref l) []).lookup ("kept":Str)=some (V.ref l);rw[kW,if_pos rfl]
theorem zN{H:Hp}:∀{cs ds:List (C4)},cs.map (fun c=>V.ref c.1)=ds.map (fun c=>V.ref c.1)->(∀c∈cs,jD H c.1 c.2.1 c.2.2.1 c.2.2.2)->(∀c∈ds,jD H c.1 c.2.1 c.2.2.1 c.2.2.2)->cs=ds
 | [],[],_,_,_=>Z
 | [],_::_,e,_,_=>nomatch e
 | _::_,[],e,_,_=>nomatch e
 | (p,r,g,b)::cs,(p',r',g',b')::ds,e,h1,h2=>by
  rw[List.map_cons,List.map_cons] at e;injection e with e1 e2
  have e1:p=p':=by injection e1
  subst e1;refine wj ((h1 (p,r,g,b) List.mem_cons_self).inj (h2 (p,r',g',b') List.mem_cons_self)) fun e0_ e1_ e2_=>?_;subst e0_;subst e1_;subst e2_;rw[zN e2 (fun c hc=>h1 c (List.mem_cons_of_mem _ hc)) (fun c hc=>h2 c (List.mem_cons_of_mem _ hc))]
theorem bA.inj {H:Hp} {a:Addr} {cs ds:List (C4)} (v:bA H a cs) (w:bA H a ds):cs=ds:=by
 have e:=v.1;rw[w.1] at e;have e:ds.map (fun c=>V.ref c.1)=cs.map (fun c=>V.ref c.1):=by injection e with e;injection e
 exact zN e.symm v.2 w.2
section
variable{P:Program}{w:World}{K:W.Frag}{mg:Str->Option Value}{base:Heap}{cFE cC cN cM cP cL cB cD cZ:Addr}{tP tS tC tI:Tok}
theorem sc_Palette.__init__:aL ["self","colours"] ["self","colours"] (aA s_Palette.__init__):=by walk_at "s"
theorem ok_Palette.__init__ {f:Addr} {fd:FuncData} (F:bf K "__init__" "Palette.__init__" s_Palette.__init__ .none f fd) {fC:Addr} (T:Txt K mg cFE cC cN cM cP cL cB cD cZ tP tS tC tI) (g_is_list_of:jA P w K mg base 4 "is_list_of" ["thing","is_one"] [] (Iu K fC)) (hC:mg "is_colour"=some (.ref fC)) (g_is_whole_within:jA P w K mg base 2 "is_whole_within" ["thing","least","most"] [] (Cu K)):bD P w K mg base (kj P w) 5 f fd ["self","colours"] (rM K cP cL):=by
 refine F.okX sc_Palette.__init__ (fun vs H Q E h=>?_) (fun cdv A outer s H vs Q E hr h=>?_)
 ·refine pM h fun p dx v e3_ _=>?_;subst e3_;rfl
 ·refine kh h fun p dx v e3_ hp t kY kN=>?_;subst e3_
  refine⟨_,(ao (bN (PW.pt (jw (cW (bU (aD g_is_list_of (hr.mono (by decide)) Z (aa (pv 1) (aa (bY (v:= .ref fC) Z hC Z) aj))))) (iG (cW (bU (aD g_is_whole_within (hr.mono (by decide)) Z (aa (aR (nH K Z) Z T.len PySem.boot_len (aa (pv 1) aj)) (aa aq (aa (bY (v:= .int 16) Z T.MOST_COLOURS ⟨_,Z⟩) aj))))))))) (az (jo Z lq Z T.BadPalette T.xBadPalette (aa dC aj))) aX)
    (ao (bN (aW xg (aR Gu Z T.len PySem.boot_len (aa (dh (Gg Z (Nat.lt_of_le_of_lt (Nat.add_le_add_left (by decide:8<=64) _) hr.units)) Z T.set PyProof.Rows.boot_set (aa (pv 1) aj)) aj)) (aR (nH K Z) Z T.len PySem.boot_len (aa (pv 1) aj)) (aZ _)) (az (jo Z lq Z T.BadPalette T.xBadPalette (aa dC aj))) aX)
    (az (Nb (pv 0) (dh (sY K Z) Z T.list PyProof.Rows.boot_list (aa (pv 1) aj)) Z)))),?_⟩
  cases hx:rowOf H v with
  | none=>
   have ng:¬LQ H v:=by rintro⟨a,cs,rfl,cv,_⟩;rw[aV cv.1] at hx;cases hx
   exact bT _ Z v Z (.inr (tR t.kd (by rw[zg t.kd,hx];rfl) _ Z ⟨uC,kN ng H (aC.refl H)⟩))
  | some xs=>
   refine aO (gh hx) fun a e1_ e=>?_;subst e1_;refine bT _ Z _ Z (.inl (gJ a xs Z e (t.len xs hx) (t.it xs hx) fun H1 s1=>⟨_,Z,uc (fun h=>?_) (fun h=>?_)⟩))
   ·refine⟨uC,kN ?_ H1 s1⟩;rintro⟨a',cs,ea,cv,_⟩;cases ea;have:=cv.1;rw[e] at this;have:xs=cs.map fun c=>V.ref c.1:=by injection this with q;injection q
    rw[this,cv.yes] at h;cases h
   refine aO (DW h) fun cs e1_ hcs=>?_;subst e1_;have cv:bA H a cs:=⟨e,hcs⟩;have c1:=cv.mono s1;have hlen:(cs.map fun c=>V.ref c.1).length=cs.length:=List.length_map _;refine bC _ Z a _ Z (.inl (aP.of c1.1)) (iu _ 1 16 Z (.int _) (fB _ Z (uc (fun hw=>?_) (fun hw=>?_))))
   ·refine⟨uC,kN ?_ H1 s1⟩;rintro⟨a',cs',ea,cv',l1,l16,_⟩;cases ea;cases cv.inj cv';rw[hlen] at hw;have:cQ 1 16 (.int (cs.length:Int))=true:=by simp only[cQ,Bool.and_eq_true,decide_eq_true_eq];omega
    rw[this] at hw;cases hw
   have hb:1<=cs.length/\cs.length<=16:=by rw[hlen] at hw;simp only[cQ,Bool.and_eq_true,decide_eq_true_eq] at hw;omega
   refine fB _ Z (eH a _ (cs.map kc) Z (aP.of c1.1) (by rw[hlen];omega) (bA.tups c1.2) fun q hq=>?_);have z2:=au (o:=Ms q (dd (cs.map kc)).length) hq;have c2:=c1.mono z2;refine di q _ Z ak (aM _ Z a _ Z (.inl (aP.of c2.1)) Z (fB _ Z (uc (fun hn=>?_) (fun hn=>?_))))
   ·refine⟨uC,kN ?_ _ (s1.trans z2)⟩;rintro⟨a',cs',ea,cv',_,_,nd⟩;cases ea;cases cv.inj cv';have:=(Ah (cs.map kc)).mpr nd;rw[this,hlen,List.length_map] at hn;simp at hn
   have nd:(cs.map kc).Nodup:=(Ah _).mp (by
    have:=of_decide_eq_true hn;rw[hlen] at this;rw[List.length_map];injection this with this
    omega)
   have s12:=s1.trans z2;refine bC _ Z a _ Z (.inl (aP.of c2.1)) fun l hl=>?_;have npl:p≠l:=aF (s12 _ _ hp) hl;refine fB _ Z (bx p cL dx [] Z (by rw[aB npl];exact s12 _ _ hp) T.cl T.nK (by show 0<1000;decide) ?_);refine kY a cs Z cv hb.1 hb.2 nd l _ (s12.free hl) (fun b o hb' hne=>?_) ⟨⟨dx,ak⟩,?_,fun c hc=>?_⟩
   ·rw[aB hne];exact(s12.trans (au hl)) b o hb'
   ·rw[aB npl.symm,ak]
   ·have cc:=c2.2 c hc;have ne:c.1≠p:=Ak cc.top (s12 _ _ hp) (by intro z;cases z);exact⟨by rw[aB ne];exact au hl _ _ cc.top,cc.lr,cc.lg,cc.lb⟩
end
theorem vy{K:W.Frag}{H:Hp}{a a':Addr}{r g b r' g' b':Nat}(c':jD H a' r' g' b')(c:jD H a r g b):Am K H 1 (.ref a') (.ref a) (decide ((r',g',b')=(r,g,b))):=by
 by_cases h:a'=a
 ·subst h;refine wj (c.inj c') fun e0_ e1_ e2_=>?_;subst e0_;subst e1_;subst e2_;exact .inl (.inl (dU a' Z Z (by simp)))
 ·refine .inr (cR a' a Z Z h (Qx _ _ (.inr (tR (.inr ⟨d7.of c'.top,d7.of c.top⟩) Z (fun i=>[decide (r'=r),decide (g'=g),decide (b'=b)].getD i true) (fun i x y hx hy=>?_) ?_))))
  ·match i,hx,hy with
   | 0,hx,hy=>cases hx;cases hy;exact .inr ⟨Z,Z,by simp[JV];rw[Bool.eq_iff_iff];simp;omega⟩
   | 1,hx,hy=>cases hx;cases hy;exact .inr ⟨Z,Z,by simp[JV];rw[Bool.eq_iff_iff];simp;omega⟩
   | 2,hx,hy=>cases hx;cases hy;exact .inr ⟨Z,Z,by simp[JV];rw[Bool.eq_iff_iff];simp;omega⟩
   | i+3,hx,hy=>cases hx
  ·show _=([decide (r'=r),decide (g'=g),decide (b'=b)].getD 0 true&&([decide (r'=r),decide (g'=g),decide (b'=b)].getD 1 true&&([decide (r'=r),decide (g'=g),decide (b'=b)].getD 2 true&&true)));rw[Bool.eq_iff_iff];simp
noncomputable def N6(H:Hp)(r g b:Nat)(z:V):Bool:=decide (gj H z=some [.int (r:Int),.int (g:Int),.int (b:Int)])
theorem uf{H:Hp}{c:C4}{r g b:Nat}(h:jD H c.1 c.2.1 c.2.2.1 c.2.2.2):N6 H r g b (.ref c.1)=isC r g b c:=by obtain⟨a,r',g',b'⟩:=c;unfold N6 isC;rw[jQ h.top,Bool.eq_iff_iff,decide_eq_true_iff,decide_eq_true_iff];simp;omega
theorem um{K:W.Frag}{H:Hp}{l a:Addr}{cs:List (C4)}{r g b:Nat}{neg:Bool}{Q:VK}(v:bA H l cs)(c:jD H a r g b)(k:Q (.bl (if neg then !(cs.findIdx? (isC r g b)).isSome else(cs.findIdx? (isC r g b)).isSome)) H):Ng K neg 1 (.ref a) (.ref l) H Q:=by
 refine uh l _ (N6 H r g b) Z (aP.of v.1) (fun z hz=>?_) ?_
 ·refine aO (List.mem_map.mp hz) fun c' hc' e2_=>?_;subst e2_;have cc:=v.2 c' hc';rw[uf cc];obtain⟨a',r',g',b'⟩:=c';exact vy cc c
 ·have e:(cs.map fun c=>V.ref c.1).any (N6 H r g b)=(cs.findIdx? (isC r g b)).isSome:=by
   rw[List.any_map,List.findIdx?_isSome]
   have:∀ds:List (C4),(∀c∈ds,jD H c.1 c.2.1 c.2.2.1 c.2.2.2)->ds.any ((N6 H r g b)∘fun c=>V.ref c.1)=ds.any (isC r g b):=by
    intro ds;induction ds with
    | nil=>intro _;rfl
    | cons d ds ih=>
     intro h;rw[List.any_cons,List.any_cons,ih fun c hc=>h c (List.mem_cons_of_mem _ hc)]
     congr 1
     exact uf (h d List.mem_cons_self)
   exact this cs v.2
  rw[e];exact k
theorem By{K:W.Frag}{H:Hp}{l a:Addr}{cs:List (C4)}{r g b j:Nat}{Q:VK}(v:bA H l cs)(c:jD H a r g b)(h:cs.findIdx? (isC r g b)=some j)(k:Q (.int (j:Int)) H):ut K 1 (.ref l) [.ref a] H Q:=by
 obtain⟨hj,hp,hb⟩:=List.findIdx?_eq_some_iff_getElem.mp h;have hat:∀i(hi:i<cs.length),N6 H r g b (.ref (cs[i]).1)=isC r g b cs[i]:=fun i hi=>uf (v.2 _ (List.getElem_mem hi));refine gC l _ (.ref a) (N6 H r g b) j (.ref (cs[j]).1) Z Z v.1 (fun z hz=>?_) (by rw[List.getElem?_map,List.getElem?_eq_getElem hj];rfl) (by rw[hat j hj];exact hp) ⟨fun i z hi hz=>?_,k⟩
 ·refine aO (List.mem_map.mp hz) fun c' hc' e2_=>?_;subst e2_;have cc:=v.2 c' hc';rw[uf cc];obtain⟨a',r',g',b'⟩:=c';exact vy cc c
 ·rw[List.getElem?_map,List.getElem?_eq_getElem (by omega)] at hz;cases hz;rw[hat i (by omega)];have:=hb i hi;simpa using this
section
variable{P:Program}{w:World}{K:W.Frag}{mg:Str->Option Value}{base:Heap}{cFE cC cN cM cP cL cB cD cZ:Addr}{tP tS tC tI:Tok}
theorem sc_Palette.colours:aL ["self"] ["self"] (aA s_Palette.colours):=by walk_at "s"
theorem ok_Palette.colours {f:Addr} {fd:FuncData} (F:bf K "colours" "Palette.colours" s_Palette.colours .none f fd) (T:Txt K mg cFE cC cN cM cP cL cB cD cZ tP tS tC tI):bD P w K mg base gG 1 f fd ["self"] (yR cL):=by
 refine F.ok sc_Palette.colours (fun vs H Q E h=>?_) (fun cdv A outer s H vs Q E hr h=>?_)
 ·refine pM h fun p l cs e3_ _=>?_;subst e3_;rfl
 ·refine oR h fun p l cs e3_ p4_ k=>?_;subst e3_;obtain⟨⟨dx,hp⟩,cv⟩:=p4_;refine⟨_,(az (aN (dh (sY K Z) Z T.list PyProof.Rows.boot_list (aa (sr (pv 0) Z) aj)))),?_⟩;exact fB _ Z (gZ p cL dx _ _ Z hp T.cl T.nK lW (di l _ Z (.inl (aP.of cv.1)) fun q hq=>k q hq))
theorem sc_Palette.many:aL ["self"] ["self"] (aA s_Palette.many):=by walk_at "s"
theorem ok_Palette.many {f:Addr} {fd:FuncData} (F:bf K "many" "Palette.many" s_Palette.many .none f fd) (T:Txt K mg cFE cC cN cM cP cL cB cD cZ tP tS tC tI):bD P w K mg base gG 1 f fd ["self"] (vJ cL):=by
 refine F.ok sc_Palette.many (fun vs H Q E h=>?_) (fun cdv A outer s H vs Q E hr h=>?_)
 ·refine pM h fun p l cs e3_ _=>?_;subst e3_;rfl
 ·refine oR h fun p l cs e3_ p4_ k=>?_;subst e3_;obtain⟨⟨dx,hp⟩,cv⟩:=p4_;refine⟨_,(az (aN (aR (nH K Z) Z T.len PySem.boot_len (aa (sr (pv 0) Z) aj)))),?_⟩;refine fB _ Z (gZ p cL dx _ _ Z hp T.cl T.nK lW (di l _ Z (.inl (aP.of cv.1)) ?_));rw[List.length_map];exact k
theorem sc_Palette.colour_of:aL ["self","cell"] ["self","cell"] (aA s_Palette.colour_of):=by walk_at "s"
theorem ok_Palette.colour_of {f:Addr} {fd:FuncData} (F:bf K "colour_of" "Palette.colour_of" s_Palette.colour_of .none f fd) (T:Txt K mg cFE cC cN cM cP cL cB cD cZ tP tS tC tI) (g_is_whole_within:jA P w K mg base 2 "is_whole_within" ["thing","least","most"] [] (Cu K)) (g_m_many:ym P w K mg base cL 1 "many" ["self"] (vJ cL)):bD P w K mg base (kj P w) 3 f fd ["self","cell"] (oZ K cN cL):=by
 refine F.okX sc_Palette.colour_of (fun vs H Q E h=>?_) (fun cdv A outer s H vs Q E hr h=>?_)
 ·refine gn h fun p l cs v e4_ _=>?_;subst e4_;rfl
 ·refine dG h fun p l cs v e4_ pq kd kY kN=>?_;subst e4_;obtain⟨⟨dx,hp⟩,cv⟩:=id pq
  refine⟨_,(ao (bN (cW (bU (aD g_is_whole_within (hr.mono (by decide)) Z (aa (pv 1) (aa aq (aa (aG pY (fU (pv 0) T.cl g_m_many (hr.mono (by decide))) aq) aj)))))) (az (jo Z lq Z T.NoColour T.xNoColour (aa dC aj))) aX)
    (az (aN (bw (lJ K Z) (sr (pv 0) Z) (pv 1) (fun _ _=>Z))))),?_⟩
  refine fB _ Z (bz _ Z p dx _ Z hp (dM (by decide+kernel)) (iu p l cs Z pq (di _ _ Z Z (iu v 0 _ Z kd (fB _ Z (uc (fun h=>⟨uC,kN h⟩) (fun h=>?_)))))))
  obtain⟨n,rfl,hn⟩:∃n:Nat,v= .int (n:Int)/\n<cs.length:=by
   cases v with
   | int i=>
    simp only[cQ,Bool.and_eq_true,decide_eq_true_eq] at h;exact⟨i.toNat,by rw[Int.toNat_of_nonneg h.1],by omega⟩
   | _=>cases h
  exact fB _ Z (gZ p cL dx _ _ Z hp T.cl T.nK lW (bh _ Z l _ _ _ Z Z (aP.of cv.1) (aQ (j:=n) (by rw[List.getElem?_map,List.getElem?_eq_getElem hn];rfl)) (kY n cs[n] Z (List.getElem?_eq_getElem hn))))
theorem sc_Palette.cell_of:aL ["self","colour"] ["self","colour"] (aA s_Palette.cell_of):=by walk_at "s"
theorem ok_Palette.cell_of {f:Addr} {fd:FuncData} (F:bf K "cell_of" "Palette.cell_of" s_Palette.cell_of .none f fd) (T:Txt K mg cFE cC cN cM cP cL cB cD cZ tP tS tC tI) (g_need_colour:DefX P w K mg base 4 "need_colour" ["colour"] [] (yQ K cC)):bD P w K mg base (kj P w) 5 f fd ["self","colour"] (Bj K cC cL):=by
 refine F.okX sc_Palette.cell_of (fun vs H Q E h=>?_) (fun cdv A outer s H vs Q E hr h=>?_)
 ·refine gn h fun p l cs v e4_ _=>?_;subst e4_;rfl
 ·refine dG h fun p l cs v e4_ pq tc kY kN=>?_;subst e4_;have hu:_+64<cLine:=hr.units
  refine⟨_,(ao (bQ (bB g_need_colour (hr.mono (by decide)) eV Z (aa (pv 1) aj)))
    (az (aN (vD (aW (Oh K Z 1 (by decide) hu) (pv 1) (sr (pv 0) Z) (by with_unfolding_all rfl)) (ju PySem.F.plainAttrs_list PySem.F.slot_list_index PySem.F.type_list_index (oV K Z 1 (by decide) hu) (sr (pv 0) Z) (aa (pv 1) aj)) zr)))),?_⟩
  refine m8 _ Z v Z tc (fun hc H1 s1=>?_) fun hc=>kN hc;refine gn (zF hc) fun a r g b e4_ c=>?_;subst e4_;have kY:=kY a r g b Z c H1 s1;obtain⟨⟨dx,hp⟩,cv⟩:=pq.mono s1;have c1:=c.mono s1;refine bT _ Z _ Z (gZ p cL dx _ _ Z hp T.cl T.nK lW (um (neg:=false) cv c1 ⟨_,Z,?_⟩));cases hf:cs.findIdx? (isC r g b) with
  | none=>
   rw[vp,hf] at kY;exact kY
  | some j=>
   rw[vp,hf] at kY;exact fB _ Z (il p cL dx _ _ Z hp T.cl T.nK lW (.inl ⟨Z,_,aP.of cv.1⟩) (fB _ Z (By cv c1 hf kY)))
theorem sc_Palette.add_colour:aL ["self","colour","cell"] ["self","colour"] (aA s_Palette.add_colour):=by walk_at "s"
theorem ok_Palette.add_colour {f:Addr} {fd:FuncData} (F:bf K "add_colour" "Palette.add_colour" s_Palette.add_colour .none f fd) (T:Txt K mg cFE cC cN cM cP cL cB cD cZ tP tS tC tI) (g_m_cell_of:wB P w K mg base cL 5 "cell_of" ["self","colour"] (Bj K cC cL)) (g_m_many:ym P w K mg base cL 1 "many" ["self"] (vJ cL)):bD P w K mg base (kj P w) 6 f fd ["self","colour"] (Hn K cC cM cL):=by
 refine F.okX sc_Palette.add_colour (fun vs H Q E h=>?_) (fun cdv A outer s H vs Q E hr h=>?_)
 ·refine gn h fun p l cs v e4_ _=>?_;subst e4_;rfl
 ·refine dG h fun p l cs v e4_ pq h16 tc p8_=>?_;subst e4_;obtain⟨kY,kN⟩:=p8_
  refine⟨_,(ao (aK (i:=2) sc_Palette.add_colour.nd Z (.inl Z) (o5 (pv 0) T.cl g_m_cell_of (hr.mono (by decide)) eV (aa (pv 1) aj)))
    (ao (bN (M6 (K5 (pv 2))) (az (aN (pv 2))) aX)
    (ao (bN (aW nC (fU (pv 0) T.cl g_m_many (hr.mono (by decide))) (bY (v:= .int 16) Z T.MOST_COLOURS ⟨_,Z⟩) (aZ _)) (az (jo Z lq Z T.TooMany T.xTooMany (aa dC aj))) aX)
    (ao (bQ (ju PySem.F.plainAttrs_list PySem.F.slot_list_append PySem.F.type_list_append dg (sr (pv 0) Z) (aa (pv 1) aj)))
    (az (aN (aG pY (fU (pv 0) T.cl g_m_many (hr.mono (by decide))) aq))))))),?_⟩
  obtain⟨⟨dx,hp⟩,cv⟩:=id pq;refine bz _ Z p dx _ Z hp (dM (by decide+kernel)) (bh _ Z p l cs v Z pq tc (fun a r g b e c H1 s1=>?_) fun hc=>kN hc);subst e;refine wj (kY a r g b Z c) fun kA kB kC=>?_;obtain⟨⟨dx,hp⟩,cv⟩:=pq.mono s1;have c1:=c.mono s1;have pq1:=pq.mono s1;cases hf:cs.findIdx? (isC r g b) with
  | some j=>
   have e:vp cs r g b= .int (j:Int):=by unfold vp;rw[hf]
   rw[e];exact bT _ Z _ Z ⟨_,Z,kA j hf H1 s1⟩
  | none=>
   have e:vp cs r g b= .non:=by unfold vp;rw[hf]
   rw[e];refine⟨_,Z,_,Z,_,Z,p,dx,_,Z,hp,dM (by decide+kernel),p,l,cs,Z,pq1,Z,_,Z,Gi (fun h=>?_) (fun h=>?_)⟩
   ·exact⟨uC,kB hf (by have h:=of_decide_eq_true h;injection h with h;omega) H1 s1⟩
   ·have hl:cs.length<16:=by
     rcases Nat.lt_or_ge cs.length 16 with q | q
     ·exact q
     ·exact absurd (by rw[show cs.length=16 by omega];rfl) h
    refine⟨_,Z,p,cL,dx,_,_,Z,hp,T.cl,T.nK,lW,.inl ⟨Z,_,aP.of cv.1⟩,_,Z,l,_,_,Z,Z,cv.1,Nat.lt_of_lt_of_le (by rw[List.length_map];omega:_<5000) (by decide),?_⟩;have npl:p≠l:=Ak hp cv.1 (by intro z;cases z)
    have cv2:bA (upd H1 l (.lst (cs.map (fun c=>V.ref c.1)++[V.ref a]))) l (cs++[(a,r,g,b)]):=by
     refine⟨by rw[ak,List.map_append];rfl,fun d hd=>?_⟩
     have cd:jD H1 d.1 d.2.1 d.2.2.1 d.2.2.2:=by
      rcases List.mem_append.mp hd with hd | hd
      ·exact cv.2 d hd
      ·rw[List.mem_singleton.mp hd];exact c1
     exact⟨by rw[aB (Ak cd.top cv.1 (by intro z;cases z))];exact cd.top,cd.lr,cd.lg,cd.lb⟩
    refine⟨_,Z,p,dx,_,Z,by rw[aB npl];exact hp,dM (by decide+kernel),p,l,_,Z,⟨⟨dx,by rw[aB npl];exact hp⟩,cv2⟩,_,_,Z,Z,?_⟩;have e3:(((cs++[(a,r,g,b)]).length:Nat):Int) - 1=(cs.length:Int):=by rw[List.length_append];show((cs.length+1:Nat):Int) - 1=_;omega
    show Q (.int ((((cs++[(a,r,g,b)]).length:Nat):Int) - 1)) _;rw[e3];exact kC hf hl _ (fun b o hb hne=>by rw[aB hne];exact s1 b o hb) ak
end
noncomputable def uT(K:W.Frag)(mg:Str->Option Value)(c:Addr)(n:Str)(b:Bool):Prop:=∃a:Addr,mg n=some (.ref a)/\W.kitOne K (.ref c) (.ref a)=some b
structure PQ(K:W.Frag)(mg:Str->Option Value)(c:Addr)(word:Str)(b1 b2 b3 b4 b5 b6 b7 b8 b9:Bool):Prop where
 kX:pK K c
 iV:W.kitOne K (.ref c) (.type "ValueError")=some true
 hw:∀t1 t2 t3 t4 t5 t6 t7 t8 t9:Addr,(([(t1,("cell":Str),b1),(t2,("colour":Str),b2),(t3,("pack":Str),b3),(t4,("palette":Str),b4),(t5,("picture":Str),b5),(t6,("size":Str),b6),(t7,("none":Str),b7),(t8,("many":Str),b8),(t9,("runs":Str),b9)]:List (Addr×Str×Bool)).filter fun t=>t.2.2).map (fun t=>V.str t.2.1)=[V.str word]
 BadCell:uT K mg c "BadCell" b1
 BadColour:uT K mg c "BadColour" b2
 BadPack:uT K mg c "BadPack" b3
 BadPalette:uT K mg c "BadPalette" b4
 BadPicture:uT K mg c "BadPicture" b5
 BadSize:uT K mg c "BadSize" b6
 NoColour:uT K mg c "NoColour" b7
 TooMany:uT K mg c "TooMany" b8
 BadRuns:uT K mg c "BadRuns" b9
 BadCheck:uT K mg c "BadCheck" false
 BadDeed:uT K mg c "BadDeed" false
 BadEdge:uT K mg c "BadEdge" false
 BadHead:uT K mg c "BadHead" false
 BadMask:uT K mg c "BadMask" false
 BadName:uT K mg c "BadName" false
 BadPart:uT K mg c "BadPart" false
 BadRule:uT K mg c "BadRule" false
 BadText:uT K mg c "BadText" false
 NoPart:uT K mg c "NoPart" false
 NoPicture:uT K mg c "NoPicture" false
 NothingDone:uT K mg c "NothingDone" false
 OutOfPlace:uT K mg c "OutOfPlace" false
 Twice:uT K mg c "Twice" false
noncomputable def yt:Sp:=fun vs H Q _=>∃i:Int,vs=[.int i]/\Q (.bl true) H
noncomputable def zf(K:W.Frag):Sp:=fun vs H Q _=>∃(a:Addr)(ns:List Int)(k:Nat),vs=[.ref a,.int (k:Int)]/\aP K H a (ns.map V.int)/\k<=1000/\∀(n:Nat) H',n<2147483647->aC H H'->Q (.int (n:Int)) H'
noncomputable def Qv(c:Addr)(word:Str)(ea:Addr):Sp:=fun vs H Q _=>vs=[.ref ea]/\H ea=some (jf ea c)/\∀t H',aC H H'->H t=none->H' t=some (.tup [.str word])->Q (.ref t) H'
theorem LR{P:Program}{w:World}{K:W.Frag}{mg:Str->Option Value}{base:Heap}{k:Nat}{f:Addr}{fd:FuncData}{ps:List Str}{s1 s2:Addr->Sp}(a:vU P w K mg base k f fd ps s1)(b:vU P w K mg base k f fd ps s2):vU P w K mg base k f fd ps (fun ea vs H Q E=>s1 ea vs H Q E\/s2 ea vs H Q E):=
 ⟨fun ea vs H Q E h=>h.elim (a.len ea vs H Q E) (b.len ea vs H Q E),fun A ea outer s H args us vs Q E r e bn v h=>h.elim (a.run A ea outer s H args us vs Q E r e bn v) (b.run A ea outer s H args us vs Q E r e bn v)⟩
theorem GD.nil {K:W.Frag} {H:Hp} {a p:Addr} {xs:List V} {rec:V->V->Bool->Prop} (ha:aP K H a xs) (hp:aP K H p []):GD K H rec a p (decide (xs=[])):=by
 cases xs with
 | nil=>exact⟨[],[],.inr (tR (.inl ⟨ha,hp⟩) Z (fun _=>true) (fun i x y e=>by simp at e) Z)⟩
 | cons x r=>exact⟨_,[],.inl (yU ha hp (by simp) Z)⟩
theorem M8{X:Cx}(K:W.Frag)(hK:X.K=K):iR X (.type "tuple") (fun xs H Q=>∃p ys,xs=[V.ref p]/\((aP K H p ys/\∀(l:Addr),H l=none->Q (V.ref l) (upd H l (HO.tup ys)))\/d7 K H p ys/\Q (V.ref p) H)):=by subst hK;exact gH
section
variable{P:Program}{w:World}{K:W.Frag}{mg:Str->Option Value}{base:Heap}{cFE cC cN cM cP cL cB cD cZ:Addr}{tP tS tC tI:Tok}
theorem lA:aL ["_law_script","_law_k","_law_cell","_law_base"] ["_law_script","_law_k"] (aA j6):=by walk_at "s"
theorem Aj{f:Addr}{fd:FuncData}(F:bf K "_law_draw" "_law_draw" j6 .none f fd)(T:Txt K mg cFE cC cN cM cP cL cB cD cZ tP tS tC tI):bD P w K mg base gG 1 f fd ["_law_script","_law_k"] (zf K):=by
 refine F.ok lA (fun vs H Q E h=>?_) (fun cdv A outer s H vs Q E hr h=>?_)
 ·refine pM h fun a ns k e3_ _=>?_;subst e3_;rfl
 ·refine jn h fun a ns k e3_ hS hk kk=>?_;subst e3_;have hu:_+64<cLine:=hr.units
  obtain⟨t2,r2,k2⟩:∃tr,qz ((jx gG P w K mg base ["_law_script","_law_k","_law_cell","_law_base"] "_law_draw" (aA j6) f cdv A outer s H E).nox) ((bJ j6).drop 2) tr/\
    ∀(c:Int)(H1:Hp),aC H H1->tr {nx:=fun _ H'=>Q .non H',rt:=Q} [some (.ref a),some (.int (k:Int)),some (.int c),none] H1:=by
   refine⟨_,(ao (aK (i:=3) lA.nd Z (.inl Z) (aG bO (aG qp (aG dw (aG dw (aG dw (pv 2) (aG qp (aG qp aq (pv 1)) (pv 1))) (aG qp aq (pv 1))) aq) aq) aq))
    (az (aN (aG bO (aG qp (pv 3) (aG dw aq (aG qp (pv 1) (pv 1)))) aq)))),?_⟩
   intro c H1 s1;refine fB _ Z (aM _ Z _ _ Z Z (.inl ⟨by decide,by decide⟩) (aM _ Z _ _ Z Z (.inr ⟨by omega,by omega⟩) (di _ _ Z Z (aM _ Z _ _ Z Z (.inl ⟨by decide,by decide⟩) (di _ _ Z Z (du _ _ Z Z _ _ Z Z (.inr ⟨by decide,by decide⟩) (cR _ _ Z Z (by show(0:Int)<2147483647;decide) ?_)))))));have f0:=Int.emod_nonneg ((c+1009 * (k:Int) * (k:Int)+31 * (k:Int)+11) * 1103515245) (show(2147483647:Int)≠0 by decide);have f1:=Int.emod_lt_of_pos ((c+1009 * (k:Int) * (k:Int)+31 * (k:Int)+11) * 1103515245) (show(0:Int)<2147483647 by decide);show fK 3 (.int ((c+1009 * (k:Int) * (k:Int)+31 * (k:Int)+11) * 1103515245 % 2147483647)) _ H1 _;generalize (c+1009 * (k:Int) * (k:Int)+31 * (k:Int)+11) * 1103515245 % 2147483647=bs at f0 f1⊢;refine bT _ Z _ Z (aM _ Z _ _ Z Z (.inl ⟨by omega,by omega⟩) (du _ _ Z Z _ _ Z Z (.inl ⟨by omega,by omega⟩) (cR _ _ Z Z (by show(0:Int)<2147483647;decide) ?_)));have g0:=Int.emod_nonneg (bs * (48271+(k:Int) * (k:Int))) (show(2147483647:Int)≠0 by decide);have g1:=Int.emod_lt_of_pos (bs * (48271+(k:Int) * (k:Int))) (show(0:Int)<2147483647 by decide);show Q (.int (bs * (48271+(k:Int) * (k:Int)) % 2147483647)) H1;refine aO (show ∃n:Nat,bs * (48271+(k:Int) * (k:Int)) % 2147483647=(n:Int)/\n<2147483647 from⟨(bs * (48271+(k:Int) * (k:Int)) % 2147483647).toNat,by omega,by omega⟩) fun n en hn=>?_;rw[en];exact kk n H1 hn s1
  refine⟨_,(ao (aK (i:=2) lA.nd Z (.inl Z) aq)
    (ao (bN (aW (sS K Z hu) (pv 0) (bW aj) (aZ _)) (az (aK (i:=2) lA.nd Z (.inl Z) (bw (lJ K Z) (pv 0) (aG bO (pv 1) (aR (nH K Z) Z T.len PySem.boot_len (aa (pv 0) aj))) (fun _ _=>Z)))) aX)
    (@r2))),?_⟩
  refine dU _ Z (Nat.zero_le _) fun p hp=>?_;have z:=au (o:=HO.lst []) hp;refine aU 1 a p _ (by decide) Z Z (GD.nil (z.seq hS) (aP.of ak)) (fB _ Z ?_);cases ns with
  | nil=>exact k2 0 _ z
  | cons x r=>
   refine bG _ Z _ Z _ Z (du a _ Z (.inl (z.seq hS)) _ _ Z Z (by show(0:Int)<(((x::r).map V.int).length:Int);rw[List.length_map,List.length_cons];omega) ?_);have f0:=Int.emod_nonneg (k:Int) (show(((x::r).map V.int).length:Int)≠0 by rw[List.length_map,List.length_cons];omega);have f1:=Int.emod_lt_of_pos (k:Int) (show(0:Int)<(((x::r).map V.int).length:Int) by rw[List.length_map,List.length_cons];omega)
   obtain⟨v,hv,hvm⟩:∃v,GJ ((x::r).map V.int) ((k:Int) % (((x::r).map V.int).length:Int))=some v/\v∈(x::r).map V.int:=by
    obtain⟨j,ej⟩:∃j:Nat,(k:Int) % (((x::r).map V.int).length:Int)=(j:Int):=⟨((k:Int) % (((x::r).map V.int).length:Int)).toNat,by omega⟩;rw[ej] at f1⊢;have hj:j<((x::r).map V.int).length:=by omega
    exact⟨_,aQ (List.getElem?_eq_getElem hj),List.getElem_mem hj⟩
   refine aO (List.mem_map.mp hvm) fun c _ e2_=>?_;subst e2_;exact aU a _ _ _ Z Z (z.seq hS) hv (k2 c _ z)
theorem yJ:aL ["_law_found"] ["_law_found"] (aA oE):=by walk_at "s"
theorem yD{f:Addr}{fd:FuncData}(F:bf K "_law_whole" "_law_whole" oE .none f fd)(T:Txt K mg cFE cC cN cM cP cL cB cD cZ tP tS tC tI):bD P w K mg base gG 1 f fd ["_law_found"] yt:=by
 refine F.ok yJ (fun vs H Q E h=>?_) (fun cdv A outer s H vs Q E hr h=>?_)
 ·refine aO h fun i e1_ _=>?_;subst e1_;rfl
 ·refine aO h fun i e1_ k=>?_;subst e1_;refine⟨_,(az (aN (pX (sO K Z (pv 0) Z T.isinstance Z T.int PyProof.Rows.boot_int) (qm (Mz (sO K Z (pv 0) Z T.isinstance Z T.bool PyProof.Rows.boot_bool)))))),?_⟩;exact bG _ Z _ ((Kd.int (K:=K) (H:=H) i).isInt) _ Z (Fj (bG _ Z _ ((Kd.int (K:=K) (H:=H) i).isBool) _ Z k))
theorem gY:aL ["_law_e","_law_some","_law_found"] ["_law_e"] (aA qb):=by walk_at "s"
theorem nR{c f:Addr}{fd:FuncData}{word:Str}{b1 b2 b3 b4 b5 b6 b7 b8 b9:Bool}(F:bf K "_law_word" "_law_word" qb .none f fd)(T:Txt K mg cFE cC cN cM cP cL cB cD cZ tP tS tC tI)(TW:PQ K mg c word b1 b2 b3 b4 b5 b6 b7 b8 b9):vU P w K mg base 2 f fd ["_law_e"] (Qv c word):=by
 refine F.okM gY (fun ea vs H Q E h=>?_) (fun cdv A ea outer s H vs Q E hr h=>?_)
 ·obtain⟨rfl,_⟩:=h;rfl
 ·refine wj h fun e0_ ex k=>?_;subst e0_;refine aO TW.BadCell fun cBadCell mBadCell nBadCell=>?_;refine aO TW.BadColour fun cBadColour mBadColour nBadColour=>?_;refine aO TW.BadPack fun cBadPack mBadPack nBadPack=>?_;refine aO TW.BadPalette fun cBadPalette mBadPalette nBadPalette=>?_;refine aO TW.BadPicture fun cBadPicture mBadPicture nBadPicture=>?_;refine aO TW.BadSize fun cBadSize mBadSize nBadSize=>?_;refine aO TW.NoColour fun cNoColour mNoColour nNoColour=>?_;refine aO TW.TooMany fun cTooMany mTooMany nTooMany=>?_;refine aO TW.BadRuns fun cBadRuns mBadRuns nBadRuns=>?_;refine aO TW.BadCheck fun cBadCheck mBadCheck nBadCheck=>?_;refine aO TW.BadDeed fun cBadDeed mBadDeed nBadDeed=>?_;refine aO TW.BadEdge fun cBadEdge mBadEdge nBadEdge=>?_;refine aO TW.BadHead fun cBadHead mBadHead nBadHead=>?_;refine aO TW.BadMask fun cBadMask mBadMask nBadMask=>?_;refine aO TW.BadName fun cBadName mBadName nBadName=>?_;refine aO TW.BadPart fun cBadPart mBadPart nBadPart=>?_;refine aO TW.BadRule fun cBadRule mBadRule nBadRule=>?_;refine aO TW.BadText fun cBadText mBadText nBadText=>?_;refine aO TW.NoPart fun cNoPart mNoPart nNoPart=>?_;refine aO TW.NoPicture fun cNoPicture mNoPicture nNoPicture=>?_;refine aO TW.NothingDone fun cNothingDone mNothingDone nNothingDone=>?_;refine aO TW.OutOfPlace fun cOutOfPlace mOutOfPlace nOutOfPlace=>?_;refine aO TW.Twice fun cTwice mTwice nTwice=>?_
  refine⟨_,(ao (aK (i:=1) gY.nd Z (.inl Z) (bW (aa (bZ (aa dC (aa (pP K Z (pv 0) Z T.isinstance Z mBadCell) aj))) (aa (bZ (aa dC (aa (pP K Z (pv 0) Z T.isinstance Z mBadColour) aj))) (aa (bZ (aa dC (aa (pP K Z (pv 0) Z T.isinstance Z mBadPack) aj))) aj)))))
    (ao (aK (i:=1) gY.nd Z (.inl Z) (aG lM (pv 1) (bW (aa (bZ (aa dC (aa (pP K Z (pv 0) Z T.isinstance Z mBadPalette) aj))) (aa (bZ (aa dC (aa (pP K Z (pv 0) Z T.isinstance Z mBadPicture) aj))) aj)))))
    (ao (aK (i:=1) gY.nd Z (.inl Z) (aG lM (pv 1) (bW (aa (bZ (aa dC (aa (pP K Z (pv 0) Z T.isinstance Z mBadSize) aj))) (aa (bZ (aa dC (aa (pP K Z (pv 0) Z T.isinstance Z mNoColour) aj))) aj)))))
    (ao (aK (i:=1) gY.nd Z (.inl Z) (aG lM (pv 1) (bW (aa (bZ (aa dC (aa (pP K Z (pv 0) Z T.isinstance Z mTooMany) aj))) (aa (bZ (aa dC (aa (pP K Z (pv 0) Z T.isinstance Z mBadRuns) aj))) aj)))))
    (ao (zM (yW ea) (ix:=2) (N:=["_law_word_here","_law_fits"]) (src:=[none,none]) gY.nd Z Z (fun _ _ _ _=>Z) ⟨Z,Z,Z,Z,Z,by decide+kernel⟩ (Jr K Z (pv 1)) (fun s H C fp=>JX (n:=2) K Z Z (dI (aJ (i:=0) (show(["_law_word_here","_law_fits"]:List Str).Nodup by decide+kernel) Z (.inl Z)) (dI (aJ (i:=1) (show(["_law_word_here","_law_fits"]:List Str).Nodup by decide+kernel) Z (.inl Z)) o9))) (fun s H C fp=>(kO (bU (pv 1)))) (fun s H C fp=>(pv 0)))
    (ao (bN (bU (aR (xm K Z) Z T.isinstance PyProof.Rows.boot_isinstance (aa (pv 0) (aa (bZ (aa (bY (v:= .ref cBadCheck) Z mBadCheck Z) (aa (bY (v:= .ref cBadDeed) Z mBadDeed Z) (aa (bY (v:= .ref cBadEdge) Z mBadEdge Z) (aa (bY (v:= .ref cBadHead) Z mBadHead Z) (aa (bY (v:= .ref cBadMask) Z mBadMask Z) (aa (bY (v:= .ref cBadName) Z mBadName Z) (aa (bY (v:= .ref cBadPart) Z mBadPart Z) (aa (bY (v:= .ref cBadRule) Z mBadRule Z) (aa (bY (v:= .ref cBadText) Z mBadText Z) aj)))))))))) aj)))) (az (bQ (ju PySem.F.plainAttrs_list PySem.F.slot_list_append PySem.F.type_list_append dg (pv 2) (aa dC aj)))) aX)
    (ao (bN (PW.pt (jw (bU (aR (xm K Z) Z T.isinstance PyProof.Rows.boot_isinstance (aa (pv 0) (aa (bZ (aa (bY (v:= .ref cNoPart) Z mNoPart Z) (aa (bY (v:= .ref cNoPicture) Z mNoPicture Z) (aa (bY (v:= .ref cNothingDone) Z mNothingDone Z) (aa (bY (v:= .ref cOutOfPlace) Z mOutOfPlace Z) (aa (bY (v:= .ref cTwice) Z mTwice Z) aj)))))) aj)))) (iG (cW (bU (sO K Z (pv 0) Z T.isinstance Z T.ValueError KN)))))) (az (bQ (ju PySem.F.plainAttrs_list PySem.F.slot_list_append PySem.F.type_list_append dg (pv 2) (aa dC aj)))) aX)
    (az (aN (dh (M8 K Z) Z T.tuple PyProof.Rows.boot_tuple (aa (pv 2) aj))))))))))),?_⟩
  have sm:=aC.refl H;refine bc _ Z b1 ⟨_,.exc ex TW.kX,nBadCell⟩ uw fun t1 h_=>?_;have z_:=au (o:=HO.tup [V.str "cell",.bl b1]) h_;have ft1:H t1=none:=sm.free h_;walk_at "n";have et1:upd H t1 (HO.tup [V.str "cell",.bl b1]) t1=some (HO.tup [V.str "cell",.bl b1]):=ak;clear z_;generalize upd H t1 (HO.tup [V.str "cell",.bl b1])=G1 at sm ex et1 h_⊢;clear h_;refine bc _ Z b2 ⟨_,.exc ex TW.kX,nBadColour⟩ uw fun t2 h_=>?_;have z_:=au (o:=HO.tup [V.str "colour",.bl b2]) h_;have ft2:H t2=none:=sm.free h_;walk_at "n";have et2:upd G1 t2 (HO.tup [V.str "colour",.bl b2]) t2=some (HO.tup [V.str "colour",.bl b2]):=ak;clear z_;generalize upd G1 t2 (HO.tup [V.str "colour",.bl b2])=G2 at sm ex et1 et2 h_⊢;clear h_;refine bc _ Z b3 ⟨_,.exc ex TW.kX,nBadPack⟩ uw fun t3 h_=>?_;have z_:=au (o:=HO.tup [V.str "pack",.bl b3]) h_;have ft3:H t3=none:=sm.free h_;walk_at "n";have et3:upd G2 t3 (HO.tup [V.str "pack",.bl b3]) t3=some (HO.tup [V.str "pack",.bl b3]):=ak;clear z_;generalize upd G2 t3 (HO.tup [V.str "pack",.bl b3])=G3 at sm ex et1 et2 et3 h_⊢;clear h_;refine⟨JQ,fun l1 h_=>?_⟩;have z_:=au (o:=HO.lst [V.ref t1,.ref t2,.ref t3]) h_;have fl1:H l1=none:=sm.free h_;walk_at "n";have el1:upd G3 l1 (HO.lst [V.ref t1,.ref t2,.ref t3]) l1=some (HO.lst [V.ref t1,.ref t2,.ref t3]):=ak;clear z_;generalize upd G3 l1 (HO.lst [V.ref t1,.ref t2,.ref t3])=G4 at sm ex et1 et2 et3 el1 h_⊢;clear h_;refine⟨_,Z,?_⟩;refine bc _ Z b4 ⟨_,.exc ex TW.kX,nBadPalette⟩ uw fun t4 h_=>?_;have z_:=au (o:=HO.tup [V.str "palette",.bl b4]) h_;have ft4:H t4=none:=sm.free h_;walk_at "n";have et4:upd G4 t4 (HO.tup [V.str "palette",.bl b4]) t4=some (HO.tup [V.str "palette",.bl b4]):=ak;clear z_;generalize upd G4 t4 (HO.tup [V.str "palette",.bl b4])=G5 at sm ex et1 et2 et3 el1 et4 h_⊢;clear h_;refine bc _ Z b5 ⟨_,.exc ex TW.kX,nBadPicture⟩ uw fun t5 h_=>?_;have z_:=au (o:=HO.tup [V.str "picture",.bl b5]) h_;have ft5:H t5=none:=sm.free h_;walk_at "n";have et5:upd G5 t5 (HO.tup [V.str "picture",.bl b5]) t5=some (HO.tup [V.str "picture",.bl b5]):=ak;clear z_;generalize upd G5 t5 (HO.tup [V.str "picture",.bl b5])=G6 at sm ex et1 et2 et3 el1 et4 et5 h_⊢;clear h_;refine⟨uw,fun m2 h_=>?_⟩;have z_:=au (o:=HO.lst [V.ref t4,.ref t5]) h_;have fm2:H m2=none:=sm.free h_;walk_at "n";have em2:upd G6 m2 (HO.lst [V.ref t4,.ref t5]) m2=some (HO.lst [V.ref t4,.ref t5]):=ak;clear z_;generalize upd G6 m2 (HO.lst [V.ref t4,.ref t5])=G7 at sm ex et1 et2 et3 el1 et4 et5 em2 h_⊢;clear h_;refine bx l1 m2 _ _ Z Z el1 em2 (by show 3+2<=sizeLine;decide) fun l2 h_=>?_;have z_:=au (o:=HO.lst ([V.ref t1,.ref t2,.ref t3]++[V.ref t4,.ref t5])) h_;have fl2:H l2=none:=sm.free h_;walk_at "n";have el2:upd G7 l2 (HO.lst ([V.ref t1,.ref t2,.ref t3]++[V.ref t4,.ref t5])) l2=some (HO.lst ([V.ref t1,.ref t2,.ref t3]++[V.ref t4,.ref t5])):=ak;clear z_;generalize upd G7 l2 (HO.lst ([V.ref t1,.ref t2,.ref t3]++[V.ref t4,.ref t5]))=G8 at sm ex et1 et2 et3 el1 et4 et5 em2 el2 h_⊢;clear h_;have el2:G8 l2=some (.lst [V.ref t1,.ref t2,.ref t3,.ref t4,.ref t5]):=el2;refine⟨_,Z,?_⟩;refine bc _ Z b6 ⟨_,.exc ex TW.kX,nBadSize⟩ uw fun t6 h_=>?_;have z_:=au (o:=HO.tup [V.str "size",.bl b6]) h_;have ft6:H t6=none:=sm.free h_;walk_at "n";have et6:upd G8 t6 (HO.tup [V.str "size",.bl b6]) t6=some (HO.tup [V.str "size",.bl b6]):=ak;clear z_;generalize upd G8 t6 (HO.tup [V.str "size",.bl b6])=G9 at sm ex et1 et2 et3 et4 et5 el2 et6 h_⊢;clear h_;refine bc _ Z b7 ⟨_,.exc ex TW.kX,nNoColour⟩ uw fun t7 h_=>?_;have z_:=au (o:=HO.tup [V.str "none",.bl b7]) h_;have ft7:H t7=none:=sm.free h_;walk_at "n";have et7:upd G9 t7 (HO.tup [V.str "none",.bl b7]) t7=some (HO.tup [V.str "none",.bl b7]):=ak;clear z_;generalize upd G9 t7 (HO.tup [V.str "none",.bl b7])=G10 at sm ex et1 et2 et3 et4 et5 el2 et6 et7 h_⊢;clear h_;refine⟨uw,fun m3 h_=>?_⟩;have z_:=au (o:=HO.lst [V.ref t6,.ref t7]) h_;have fm3:H m3=none:=sm.free h_;walk_at "n";have em3:upd G10 m3 (HO.lst [V.ref t6,.ref t7]) m3=some (HO.lst [V.ref t6,.ref t7]):=ak;clear z_;generalize upd G10 m3 (HO.lst [V.ref t6,.ref t7])=G11 at sm ex et1 et2 et3 et4 et5 el2 et6 et7 em3 h_⊢;clear h_;refine bx l2 m3 _ _ Z Z el2 em3 (by show 5+2<=sizeLine;decide) fun l3 h_=>?_;have z_:=au (o:=HO.lst ([V.ref t1,.ref t2,.ref t3,.ref t4,.ref t5]++[V.ref t6,.ref t7])) h_;have fl3:H l3=none:=sm.free h_;walk_at "n";have el3:upd G11 l3 (HO.lst ([V.ref t1,.ref t2,.ref t3,.ref t4,.ref t5]++[V.ref t6,.ref t7])) l3=some (HO.lst ([V.ref t1,.ref t2,.ref t3,.ref t4,.ref t5]++[V.ref t6,.ref t7])):=ak;clear z_;generalize upd G11 l3 (HO.lst ([V.ref t1,.ref t2,.ref t3,.ref t4,.ref t5]++[V.ref t6,.ref t7]))=G12 at sm ex et1 et2 et3 et4 et5 el2 et6 et7 em3 el3 h_⊢;clear h_;have el3:G12 l3=some (.lst [V.ref t1,.ref t2,.ref t3,.ref t4,.ref t5,.ref t6,.ref t7]):=el3;refine⟨_,Z,?_⟩;refine bc _ Z b8 ⟨_,.exc ex TW.kX,nTooMany⟩ uw fun t8 h_=>?_;have z_:=au (o:=HO.tup [V.str "many",.bl b8]) h_;have ft8:H t8=none:=sm.free h_;walk_at "n";have et8:upd G12 t8 (HO.tup [V.str "many",.bl b8]) t8=some (HO.tup [V.str "many",.bl b8]):=ak;clear z_;generalize upd G12 t8 (HO.tup [V.str "many",.bl b8])=G13 at sm ex et1 et2 et3 et4 et5 et6 et7 el3 et8 h_⊢;clear h_;refine bc _ Z b9 ⟨_,.exc ex TW.kX,nBadRuns⟩ uw fun t9 h_=>?_;have z_:=au (o:=HO.tup [V.str "runs",.bl b9]) h_;have ft9:H t9=none:=sm.free h_;walk_at "n";have et9:upd G13 t9 (HO.tup [V.str "runs",.bl b9]) t9=some (HO.tup [V.str "runs",.bl b9]):=ak;clear z_;generalize upd G13 t9 (HO.tup [V.str "runs",.bl b9])=G14 at sm ex et1 et2 et3 et4 et5 et6 et7 el3 et8 et9 h_⊢;clear h_;refine⟨uw,fun m4 h_=>?_⟩;have z_:=au (o:=HO.lst [V.ref t8,.ref t9]) h_;have fm4:H m4=none:=sm.free h_;walk_at "n";have em4:upd G14 m4 (HO.lst [V.ref t8,.ref t9]) m4=some (HO.lst [V.ref t8,.ref t9]):=ak;clear z_;generalize upd G14 m4 (HO.lst [V.ref t8,.ref t9])=G15 at sm ex et1 et2 et3 et4 et5 et6 et7 el3 et8 et9 em4 h_⊢;clear h_;refine bx l3 m4 _ _ Z Z el3 em4 (by show 7+2<=sizeLine;decide) fun l4 h_=>?_;have z_:=au (o:=HO.lst ([V.ref t1,.ref t2,.ref t3,.ref t4,.ref t5,.ref t6,.ref t7]++[V.ref t8,.ref t9])) h_;have fl4:H l4=none:=sm.free h_;walk_at "n";have el4:upd G15 l4 (HO.lst ([V.ref t1,.ref t2,.ref t3,.ref t4,.ref t5,.ref t6,.ref t7]++[V.ref t8,.ref t9])) l4=some (HO.lst ([V.ref t1,.ref t2,.ref t3,.ref t4,.ref t5,.ref t6,.ref t7]++[V.ref t8,.ref t9])):=ak;clear z_;generalize upd G15 l4 (HO.lst ([V.ref t1,.ref t2,.ref t3,.ref t4,.ref t5,.ref t6,.ref t7]++[V.ref t8,.ref t9]))=G16 at sm ex et1 et2 et3 et4 et5 et6 et7 el3 et8 et9 em4 el4 h_⊢;clear h_;have el4:G16 l4=some (.lst [V.ref t1,.ref t2,.ref t3,.ref t4,.ref t5,.ref t6,.ref t7,.ref t8,.ref t9]):=el4;refine bc _ Z l4 Z ⟨_,aP.of el4⟩ fun D h_=>?_
  have hT:∀t∈([(t1,("cell":Str),b1),(t2,("colour":Str),b2),(t3,("pack":Str),b3),(t4,("palette":Str),b4),(t5,("picture":Str),b5),(t6,("size":Str),b6),(t7,("none":Str),b7),(t8,("many":Str),b8),(t9,("runs":Str),b9)]:List (Addr×Str×Bool)),d7 K G16 t.1 [.str t.2.1,.bl t.2.2]:=fun t ht=>by
   simp only[List.mem_cons,List.not_mem_nil,or_false] at ht;rcases ht with rfl | rfl | rfl | rfl | rfl | rfl | rfl | rfl | rfl
   ·exact d7.of et1
   ·exact d7.of et2
   ·exact d7.of et3
   ·exact d7.of et4
   ·exact d7.of et5
   ·exact d7.of et6
   ·exact d7.of et7
   ·exact d7.of et8
   ·exact d7.of et9
  refine Gn (L:=[(t1,("cell":Str),b1),(t2,("colour":Str),b2),(t3,("pack":Str),b3),(t4,("palette":Str),b4),(t5,("picture":Str),b5),(t6,("size":Str),b6),(t7,("none":Str),b7),(t8,("many":Str),b8),(t9,("runs":Str),b9)]) (aP.of el4) hT ⟨c,ex⟩ R3 Z h_ fun H5 s5 eD=>?_;have fD:H D=none:=sm.free h_;have eD:H5 D=some (.lst [.str word]):=by rw[eD,TW.hw]
  have ex:=s5 _ _ ex;have sm:=sm.trans s5;refine dU _ Z R3 fun p1 hp1=>?_;have y1:=au (o:=HO.tup [V.ref cBadCheck,V.ref cBadDeed,V.ref cBadEdge,V.ref cBadHead,V.ref cBadMask,V.ref cBadName,V.ref cBadPart,V.ref cBadRule,V.ref cBadText]) hp1;refine gZ ea c p1 [cBadCheck,cBadDeed,cBadEdge,cBadHead,cBadMask,cBadName,cBadPart,cBadRule,cBadText] false Z (y1 _ _ ex) TW.kX (d7.of ak) (oO (fun c hc=>?_)) ?_
  ·simp only[List.mem_cons,List.not_mem_nil,or_false] at hc;rcases hc with rfl | rfl | rfl | rfl | rfl | rfl | rfl | rfl | rfl<;>assumption
  have ex:=y1 _ _ ex;have eD:=y1 _ _ eD;have sm:=sm.trans y1;generalize upd H5 p1 (HO.tup [V.ref cBadCheck,V.ref cBadDeed,V.ref cBadEdge,V.ref cBadHead,V.ref cBadMask,V.ref cBadName,V.ref cBadPart,V.ref cBadRule,V.ref cBadText])=Y1 at ex eD sm y1⊢;refine⟨_,Z,?_⟩;refine dU _ Z Sh fun p2 hp2=>?_;have y2:=au (o:=HO.tup [V.ref cNoPart,V.ref cNoPicture,V.ref cNothingDone,V.ref cOutOfPlace,V.ref cTwice]) hp2;refine gZ ea c p2 [cNoPart,cNoPicture,cNothingDone,cOutOfPlace,cTwice] false Z (y2 _ _ ex) TW.kX (d7.of ak) (oO (fun c hc=>?_)) ?_
  ·simp only[List.mem_cons,List.not_mem_nil,or_false] at hc;rcases hc with rfl | rfl | rfl | rfl | rfl<;>assumption
  have ex:=y2 _ _ ex;have eD:=y2 _ _ eD;have sm:=sm.trans y2;generalize upd Y1 p2 (HO.tup [V.ref cNoPart,V.ref cNoPicture,V.ref cNothingDone,V.ref cOutOfPlace,V.ref cTwice])=Y2 at ex eD sm y2⊢;refine fB _ Z (bG _ Z true ⟨_,.exc ex TW.kX,TW.iV⟩ _ Z ?_);exact fB _ Z (mF D _ Z (.inl ⟨aP.of eD,fun t ht=>k t _ (sm.trans (au ht)) (sm.free ht) ak⟩))
end
noncomputable def Aq:Sp:=fun vs H Q _=>∃n:Nat,vs=[.int (n:Int)]/\∀t H' r g b,aC H H'->H t=none->jD H' t r g b->Q (.ref t) H'
theorem yg{xs:List V}{m:Int}(n:Nat)(h:xs.length=n)(hn:0<n):∃x∈xs,GJ xs (m % (n:Int))=some x:=by
 have f0:=Int.emod_nonneg m (show(n:Int)≠0 by omega);have f1:=Int.emod_lt_of_pos m (show(0:Int)<(n:Int) by omega);obtain⟨j,ej⟩:∃j:Nat,m % (n:Int)=(j:Int):=⟨(m % (n:Int)).toNat,by omega⟩;rw[ej] at f1⊢;have hj:j<xs.length:=by omega
 exact⟨_,List.getElem_mem hj,aQ (List.getElem?_eq_getElem hj)⟩
theorem bA.snoc {H:Hp} {a p:Addr} {cs:List (C4)} {r g b:Nat} (e:H a=some (.lst (cs.map (fun c=>V.ref c.1)++[V.ref p]))) (h:∀c∈cs,jD H c.1 c.2.1 c.2.2.1 c.2.2.2) (c:jD H p r g b):bA H a (cs++[(p,r,g,b)]):=by
 refine⟨by rw[e,List.map_append];rfl,fun d hd=>?_⟩;rcases List.mem_append.mp hd with hd | hd
 ·exact h d hd
 ·rw[List.mem_singleton.mp hd];exact c
noncomputable def Hs(K:W.Frag):Sp:=fun vs H Q _=>∃(a:Addr)(ns:List Int)(k:Nat)(nr:Bool),vs=[.ref a,.int (k:Int),.bl nr]/\aP K H a (ns.map V.int)/\k<=100/\∀p cs H',aC H H'->H p=none->bA H' p cs->1<=cs.length->cs.length<=24->(cs.map kc).Nodup->Q (.ref p) H'
theorem rz{cs:List (C4)}{r g b:Nat}(h:cs.findIdx? (isC r g b)=none):([(r:Int),(g:Int),(b:Int)]:List Int)∉cs.map kc:=by intro hm;refine aO (List.mem_map.mp hm) fun c hc e=>?_;have:=List.findIdx?_eq_none_iff.mp h c hc;obtain⟨a,r',g',b'⟩:=c;unfold kc at e;simp at e;unfold isC at this;have:=of_decide_eq_false this;exact this (by simp;omega)
section
variable{P:Program}{w:World}{K:W.Frag}{mg:Str->Option Value}{base:Heap}{cFE cC cN cM cP cL cB cD cZ:Addr}{tP tS tC tI:Tok}
theorem gw:aL ["_law_number","_law_shares","_law_way"] ["_law_number"] (aA iK):=by walk_at "s"
theorem wM{f:Addr}{fd:FuncData}(F:bf K "_law_colour" "_law_colour" iK .none f fd)(T:Txt K mg cFE cC cN cM cP cL cB cD cZ tP tS tC tI):bD P w K mg base gG 1 f fd ["_law_number"] (Aq):=by
 refine F.ok gw (fun vs H Q E h=>?_) (fun cdv A outer s H vs Q E hr h=>?_)
 ·refine aO h fun n e1_ _=>?_;subst e1_;rfl
 ·refine aO h fun n e1_ k=>?_;subst e1_
  obtain⟨t3,r3,k3⟩:∃tr,qz ((jx gG P w K mg base ["_law_number","_law_shares","_law_way"] "_law_colour" (aA iK) f cdv A outer s H E).nox) ((bJ iK).drop 3) tr/\
    ∀(m:Nat)(L:Addr)(x y z:Nat)(H1:Hp),aC H H1->H1 L=some (.lst [.int (x:Int),.int (y:Int),.int (z:Int)])->x<=255->y<=255->z<=255->tr {nx:=fun _ H'=>Q .non H',rt:=Q} [some (.int (n:Int)),some (.ref L),some (.int (m:Int))] H1:=by
   refine⟨_,(ao (bN (aW nC (pv 2) aq (aZ _)) (az (aK (i:=1) gw.nd Z (.inl Z) (bW (aa (bw (lJ K Z) (pv 1) aq (fun _ _=>Z)) (aa (bw (lJ K Z) (pv 1) aq (fun _ _=>Z)) (aa (bw (lJ K Z) (pv 1) aq (fun _ _=>Z)) aj)))))) aX)
    (az (aN (dh gH Z T.tuple PyProof.Rows.boot_tuple (aa (pv 1) aj))))),?_⟩
   intro m L x y z H1 s1 eL hx hy hz;refine dz _ Z Z _ Z (nZ (fun h=>?_) (fun h=>?_))
   rotate_left
   ·exact⟨_,Z,L,_,Z,.inl ⟨aP.of eL,fun tp htp=>k tp _ x y z (s1.trans (au htp)) (s1.free htp) ⟨ak,hx,hy,hz⟩⟩⟩
   ·refine⟨_,Z,L,_,_,_,Z,Z,aP.of eL,aQ (j:=0) Z,_,Z,L,_,_,_,Z,Z,aP.of eL,aQ (j:=0) Z,_,Z,L,_,_,_,Z,Z,aP.of eL,aQ (j:=0) Z,JQ,fun M hM=>?_⟩;have s2:=s1.trans (au (o:=HO.lst [V.int (x:Int),.int (x:Int),.int (x:Int)]) hM);exact fB _ Z (mF M _ Z (.inl ⟨aP.of ak,fun tp htp=>k tp _ x x x (s2.trans (au htp)) (s2.free htp) ⟨ak,hx,hx,hx⟩⟩))
  refine⟨_,(ao (aK (i:=1) gw.nd Z (.inl Z) (bW (aa (aG bO (pv 0) aq) (aa (aG bO (aG dq (pv 0) aq) aq) (aa (aG bO (aG dq (pv 0) aq) aq) aj)))))
    (ao (aK (i:=2) gw.nd Z (.inl Z) (aG bO (aG dq (pv 0) aq) aq))
    (ao (bN (aW Lr (pv 2) aq (aZ _)) (az (kI (ix:=1) (N:=["_law_share"]) (src:=[none]) gw.nd Z Z Z ⟨Z,Z,Z,Z,Z,by decide+kernel⟩ (oY K Z (pv 1)) (fun s H C fp=>aJ (i:=0) (show(["_law_share"]:List Str).Nodup by decide+kernel) Z (.inl Z)) (fun s H C fp=>bF) (fun s H C fp=>(bw (lJ K Z) (bW (aa aq (aa aq (aa aq (aa aq aj))))) (aG bO (pv 0) aq) (fun _ _=>Z))))) aX)
    (@r3)))),?_⟩
  refine aM _ Z _ _ Z Z (by show(0:Int)<256;decide) (aM _ Z _ _ Z Z ⟨by decide,by decide⟩ (cR _ _ Z Z (by show(0:Int)<256;decide) (aM _ Z _ _ Z Z ⟨by decide,by decide⟩ (gJ _ _ Z Z (by show(0:Int)<256;decide) JQ fun L hL=>?_))));have sL:=au (o:=HO.lst [V.int ((n:Int) % 256),.int ((n:Int) / 256 % 256),.int ((n:Int) / 65536 % 256)]) hL;have eL:upd H L (.lst [.int ((n:Int) % 256),.int ((n:Int) / 256 % 256),.int ((n:Int) / 65536 % 256)]) L=some (.lst ([n % 256,n / 256 % 256,n / 65536 % 256].map fun i:Nat=>V.int (i:Int))):=ak;refine aM _ Z _ _ Z Z ⟨by decide,by decide⟩ (cR _ _ Z Z (by show(0:Int)<9;decide) ?_);obtain⟨m,em⟩:∃m:Nat,(n:Int) / 16777216 % 9=(m:Int):=⟨n / 16777216 % 9,by omega⟩;show fK 2 (.int ((n:Int) / 16777216 % 9)) _ _ _;rw[em];generalize upd H L (HO.lst [.int ((n:Int) % 256),.int ((n:Int) / 256 % 256),.int ((n:Int) / 65536 % 256)])=H1 at sL eL⊢;have l0:n % 256<=255:=by omega
  have l1:n / 256 % 256<=255:=by omega
  have l2:n / 65536 % 256<=255:=by omega
  generalize n % 256=x at eL l0⊢;generalize n / 256 % 256=y at eL l1⊢;generalize n / 65536 % 256=z at eL l2⊢;refine fB _ Z (fZ _ _ Z Z _ Z (nZ (fun h=>?_) (fun h=>?_)))
  rotate_left
  ·exact k3 m L x y z H1 sL eL l0 l1 l2
  ·refine bc _ Z L Z ⟨_,aP.of eL⟩ fun D hD=>?_;refine bR (k:=0) (fun v=>match v with | .int i=> .int (([0,255,1,254].getD (i.toNat % 4) 0:Nat):Int) | _=> .non) (fun _=>true) (src_list (aP.of eL)) JQ hD (fun x _ H' Qb _ kk=>kk H' (aC.refl _)) (fun v hv _ H' Q' sm kk=>?_) fun H3 s3 hD3=>?_
   ·refine aO (List.mem_map.mp hv) fun i hi e2_=>?_;subst e2_;refine⟨Rb,fun p hp=>?_⟩;have tt:Q' (.int (([0,255,1,254].getD (i % 4) 0:Nat):Int)) (upd H' p (.lst [.int 0,.int 255,.int 1,.int 254])):=kk _ (au hp);refine aM _ Z _ _ Z Z (by show(0:Int)<4;decide) (aU p _ _ _ Z Z (aP.of ak) (aQ (j:=i % 4) ?_) tt);have:i % 4<4:=Nat.mod_lt _ (by decide);generalize i % 4=q at this⊢
    match q,this with
    | 0,_=>rfl
    | 1,_=>rfl
    | 2,_=>rfl
    | 3,_=>rfl
   ·have le:∀i:Nat,[0,255,1,254].getD (i % 4) 0<=255:=fun i=>by
     have:i % 4<4:=Nat.mod_lt _ (by decide);generalize i % 4=q at this⊢
     match q,this with
     | 0,_=>decide
     | 1,_=>decide
     | 2,_=>decide
     | 3,_=>decide
    exact k3 m D _ _ _ H3 (sL.trans s3) hD3 (le x) (le y) (le z)
theorem fP:aL ["_law_script","_law_first","_law_near","_law_base","_law_found","_law_k","_law_number","_law_colour_here"] ["_law_script","_law_first","_law_near"] (aA qe):=by walk_at "s"
theorem Bd{f:Addr}{fd:FuncData}(F:bf K "_law_pool" "_law_pool" qe .none f fd)(T:Txt K mg cFE cC cN cM cP cL cB cD cZ tP tS tC tI)(g__law_draw:jA P w K mg base 1 "_law_draw" ["_law_script","_law_k"] [] (zf K))(g__law_colour:jA P w K mg base 1 "_law_colour" ["_law_number"] [] (Aq)):bD P w K mg base gG 2 f fd ["_law_script","_law_first","_law_near"] (Hs K):=by
 refine F.ok fP (fun vs H Q E h=>?_) (fun cdv A outer s H vs Q E hr h=>?_)
 ·refine gn h fun a ns k nr e4_ _=>?_;subst e4_;rfl
 ·refine jq h fun a ns fk nr e4_ hS hk k=>?_;subst e4_;have hu:_+64<cLine:=hr.units
  refine⟨_,(ao (aK (i:=3) fP.nd Z (by walk_at "o") (aD g__law_colour (hr.mono (by decide)) Z (aa (aD g__law_draw (hr.mono (by decide)) Z (aa (pv 0) (aa (pv 1) aj))) aj)))
    (ao (aK (i:=4) fP.nd Z (by walk_at "o") (bW aj))
    (ao (gm PassesOwn.never Z (eE Z T.range (aa aq aj)) (aJ (i:=5) fP.nd Z (by walk_at "o")) (ao (aK (i:=6) fP.nd Z (by walk_at "o") (aD g__law_draw (hr.mono (by decide)) Z (aa (pv 0) (aa (aG dw (aG dw (pv 1) aq) (pv 5)) aj))))
    (ao (aK (i:=7) fP.nd Z (by walk_at "o") (aD g__law_colour (hr.mono (by decide)) Z (aa (pv 6) aj)))
    (ao (bN (bU (pv 2)) (az (aK (i:=7) fP.nd Z (by walk_at "o") (dh gH Z T.tuple PyProof.Rows.boot_tuple (aa (bH (N:=["_law_j","_law_base","_law_number"]) (src:=[none,some 3,some 6]) Z ⟨Z,Z,Z,Z,Z,by decide+kernel⟩ (eE Z T.range (aa aq aj)) (fun s H C fp=>aJ (i:=0) (show(["_law_j","_law_base","_law_number"]:List Str).Nodup by decide+kernel) Z (by walk_at "o")) (fun s H C fp=>bF) (fun s H C fp=>(aG dw (aR (rG Z) Z T.min PyProof.Rows.boot_min (aa (bw (tV K Z) (pv 1) (pv 0) (fun _ _=>Z)) (aa aq aj))) (aG bO (aG dq (pv 2) (bw (lJ K Z) (bW (aa aq (aa aq (aa aq aj)))) (pv 0) (fun _ _=>Z))) aq)))) aj)))) aX)
    (az (bN (aW (xH K Z 1 (by decide) hu) (pv 7) (pv 4) (by with_unfolding_all rfl)) (az (bQ (ju PySem.F.plainAttrs_list PySem.F.slot_list_append PySem.F.type_list_append dg (pv 4) (aa (pv 7) aj)))) aX))))))
    (az (aN (pv 4)))))),?_⟩
  refine⟨_,Z,_,Z,a,ns,fk,Z,hS,by omega,fun n0 H1 _ s1=>⟨n0,Z,fun tb H2 r g b s2 htb cb=>?_⟩⟩;have s12:=s1.trans s2;refine⟨Ol,fun L hL=>?_⟩;have hL0:=s12.free hL;have z3:=au (o:=HO.lst []) hL;refine⟨24,Z,by decide,by decide,?_⟩
  refine mC (lo:=0) (n:=24) (fun i σ H3=>aC H H3/\jD H3 tb r g b/\∃(cs:List (C4))(v5 v6 v7:Option V),σ=[some (.ref a),some (.int (fk:Int)),some (.bl nr),some (.ref tb),some (.ref L),v5,v6,v7]/\bA H3 L cs/\cs.length<=i/\(0<i->1<=cs.length)/\(cs.map kc).Nodup)
   ⟨s12.trans z3,cb.mono z3,[],none,none,none,Z,⟨ak,fun c hc=>nomatch hc⟩,Nat.le_refl _,fun h=>absurd h (Nat.lt_irrefl _),List.nodup_nil⟩ ?_ ?_
  ·rintro i σ H3 hi ⟨s3,cb3,cs,v5,v6,v7,rfl,cv,hl,hpos,nd⟩;refine⟨_,Z,_,Z,_,_,Z,Z,_,Z,_,_,Z,Z,a,ns,fk+1+i,(by show[V.ref a,V.int ((fk:Int)+1+(0+(i:Int)))]=_;rw[show((fk:Int)+1+(0+(i:Int)))=((fk+1+i:Nat):Int) by omega]),s3.seq hS,by omega,fun n H4 hn s4=>?_⟩;refine⟨_,Z,n,Z,fun t H5 x y z s5 ht ct=>?_⟩;have s45:=s4.trans s5;cases nr with
   | false=>
    refine⟨_,Z,_,Z,?_⟩;refine⟨_,Z,_,Z,um (neg:=true) (cv.mono s45) ct ⟨_,Z,?_⟩⟩;cases hf:cs.findIdx? (isC x y z) with
    | some j=>
     obtain⟨hj,_⟩:=List.findIdx?_eq_some_iff_getElem.mp hf;exact⟨s3.trans s45,cb3.mono s45,cs,_,_,_,Z,cv.mono s45,by omega,fun _=>by omega,nd⟩
    | none=>
     have cvm:=cv.mono s45;refine⟨_,Z,.inl ⟨Z,_,aP.of cvm.1⟩,_,Z,L,_,_,Z,Z,cvm.1,Nat.lt_of_lt_of_le (by rw[List.length_map];omega:_<5000) (by decide),?_⟩;have up:∀{q:Addr}{x1 x2 x3:Nat},jD H5 q x1 x2 x3->jD (upd H5 L (.lst (cs.map (fun c=>V.ref c.1)++[V.ref t]))) q x1 x2 x3:=fun{q x1 x2 x3} cc=>⟨by rw[aB (Ak cc.top cvm.1 (by intro z;cases z))];exact cc.top,cc.lr,cc.lg,cc.lb⟩
     exact⟨cz (s3.trans s45) hL0,up (cb3.mono s45),cs++[(t,x,y,z)],_,_,_,Z,bA.snoc ak (fun c hc=>up (cvm.2 c hc)) (up ct),by rw[List.length_append];show cs.length+1<=i+1;omega,fun _=>by rw[List.length_append];show 1<=cs.length+1;omega,by rw[List.map_append];refine List.nodup_append.mpr ⟨nd,by simp,fun u hu w hw=>?_⟩;rw[List.map_cons,List.map_nil,List.mem_singleton] at hw;subst hw;exact fun z=>rz hf (by rw[z] at hu;exact hu)⟩
   | true=>
    refine⟨_,Z,_,Z,?_⟩;refine⟨_,Z,by decide,by decide,fun D hD=>?_⟩;have cb5:=cb3.mono s45;refine bR (k:=0) (fun x=>match x with | .int j=> .int ((if(252:Int)<(([r,g,b].getD j.toNat 0:Nat):Int) then 252 else(([r,g,b].getD j.toNat 0:Nat):Int))+(n:Int) / [(1:Int),4,16].getD j.toNat 1 % 4) | _=> .non) (fun _=>true) (src_range (n:=3)) JQ hD (fun x _ H' Qb _ kk=>kk H' (aC.refl _)) (fun x hx _ H' Q' sm kk=>?_) fun H7 s7 hD7=>?_
    ·have hx:x∈[V.int 0,.int 1,.int 2]:=hx;have top:=(cb5.mono sm).top;simp only[List.mem_cons,List.not_mem_nil,or_false] at hx;rcases hx with rfl | rfl | rfl
     ·refine⟨_,Z,_,Z,tb,_,_,_,Z,Z,d7.of top,aQ (j:=0) Z,_,_,Z,_,Z,JQ,fun q hq=>?_⟩;exact⟨_,Z,q,_,_,_,Z,Z,aP.of ak,aQ (j:=0) Z,_,_,Z,Z,⟨by decide,by decide⟩,_,_,Z,Z,(by show(0:Int)<4;decide),_,_,Z,Z,kk _ (au hq)⟩
     ·refine⟨_,Z,_,Z,tb,_,_,_,Z,Z,d7.of top,aQ (j:=1) Z,_,_,Z,_,Z,JQ,fun q hq=>?_⟩;exact⟨_,Z,q,_,_,_,Z,Z,aP.of ak,aQ (j:=1) Z,_,_,Z,Z,⟨by decide,by decide⟩,_,_,Z,Z,(by show(0:Int)<4;decide),_,_,Z,Z,kk _ (au hq)⟩
     ·refine⟨_,Z,_,Z,tb,_,_,_,Z,Z,d7.of top,aQ (j:=2) Z,_,_,Z,_,Z,JQ,fun q hq=>?_⟩;exact⟨_,Z,q,_,_,_,Z,Z,aP.of ak,aQ (j:=2) Z,_,_,Z,Z,⟨by decide,by decide⟩,_,_,Z,Z,(by show(0:Int)<4;decide),_,_,Z,Z,kk _ (au hq)⟩
    have e7:H7 D=some (.lst [.int ((min r 252+n % 4:Nat):Int),.int ((min g 252+n / 4 % 4:Nat):Int),.int ((min b 252+n / 16 % 4:Nat):Int)]):=by
     have q1:(if(252:Int)<(r:Int) then(252:Int) else(r:Int))+(n:Int) / 1 % 4=((min r 252+n % 4:Nat):Int):=by split<;>omega
     have q2:(if(252:Int)<(g:Int) then(252:Int) else(g:Int))+(n:Int) / 4 % 4=((min g 252+n / 4 % 4:Nat):Int):=by split<;>omega
     have q3:(if(252:Int)<(b:Int) then(252:Int) else(b:Int))+(n:Int) / 16 % 4=((min b 252+n / 16 % 4:Nat):Int):=by split<;>omega
     rw[<-q1,<-q2,<-q3];exact hD7
    refine⟨D,_,Z,.inl ⟨aP.of e7,fun u hu'=>?_⟩⟩;have s58:=s7.trans (au (o:=HO.tup [V.int ((min r 252+n % 4:Nat):Int),.int ((min g 252+n / 4 % 4:Nat):Int),.int ((min b 252+n / 16 % 4:Nat):Int)]) hu');have cu:jD (upd H7 u (.tup [V.int ((min r 252+n % 4:Nat):Int),.int ((min g 252+n / 4 % 4:Nat):Int),.int ((min b 252+n / 16 % 4:Nat):Int)])) u (min r 252+n % 4) (min g 252+n / 4 % 4) (min b 252+n / 16 % 4):=⟨ak,by omega,by omega,by omega⟩;show fK 7 _ _ _ _;generalize upd H7 u (.tup [V.int ((min r 252+n % 4:Nat):Int),.int ((min g 252+n / 4 % 4:Nat):Int),.int ((min b 252+n / 16 % 4:Nat):Int)])=H8 at s58 cu⊢;have s38:=s45.trans s58;refine⟨_,Z,_,Z,um (neg:=true) (cv.mono s38) cu ⟨_,Z,?_⟩⟩;cases hf:cs.findIdx? (isC (min r 252+n % 4) (min g 252+n / 4 % 4) (min b 252+n / 16 % 4)) with
    | some j=>
     obtain⟨hj,_⟩:=List.findIdx?_eq_some_iff_getElem.mp hf;exact⟨s3.trans s38,cb3.mono s38,cs,_,_,_,Z,cv.mono s38,by omega,fun _=>by omega,nd⟩
    | none=>
     have cvm:=cv.mono s38;refine⟨_,Z,.inl ⟨Z,_,aP.of cvm.1⟩,_,Z,L,_,_,Z,Z,cvm.1,Nat.lt_of_lt_of_le (by rw[List.length_map];omega:_<5000) (by decide),?_⟩;have up:∀{q:Addr}{x1 x2 x3:Nat},jD H8 q x1 x2 x3->jD (upd H8 L (.lst (cs.map (fun c=>V.ref c.1)++[V.ref u]))) q x1 x2 x3:=fun{q x1 x2 x3} cc=>⟨by rw[aB (Ak cc.top cvm.1 (by intro z;cases z))];exact cc.top,cc.lr,cc.lg,cc.lb⟩
     exact⟨cz (s3.trans s38) hL0,up (cb3.mono s38),cs++[(u,(min r 252+n % 4),(min g 252+n / 4 % 4),(min b 252+n / 16 % 4))],_,_,_,Z,bA.snoc ak (fun c hc=>up (cvm.2 c hc)) (up cu),by rw[List.length_append];show cs.length+1<=i+1;omega,fun _=>by rw[List.length_append];show 1<=cs.length+1;omega,by rw[List.map_append];refine List.nodup_append.mpr ⟨nd,by simp,fun u hu w hw=>?_⟩;rw[List.map_cons,List.map_nil,List.mem_singleton] at hw;subst hw;exact fun z=>rz hf (by rw[z] at hu;exact hu)⟩
  ·rintro σ H3 ⟨s3,cb3,cs,v5,v6,v7,rfl,cv,hl,hpos,nd⟩;exact⟨_,Z,k L cs H3 s3 hL0 cv (hpos (by decide)) hl nd⟩
end
section
variable{K:W.Frag}
theorem Good.at {rows:List (List Int)} {wd:Nat} (g:Good rows wd) {i:Nat} {r:List V} (h:(ir rows)[i]? =some r):∃(ns:List Int),r=ns.map V.int/\ns.length=wd/\(∀c∈ns,0<=c/\c<=15)/\ns∈rows:=by
 unfold ir at h;rw[List.getElem?_map] at h;cases e:rows[i]? with
 | none=>rw[e] at h;cases h
 | some ns=>
  rw[e] at h;cases h;have hm:=List.mem_of_getElem? e;exact kJ ns Z ((g.row ns hm).1) ((g.row ns hm).2) hm
theorem Good.mem {H:Hp} {a q:Addr} {ps:List Addr} {rows:List (List Int)} {wd:Nat} (g:Good rows wd) (p:bj H a ps (ir rows)) (hq:q∈ps):∃(ns:List Int),H q=some (.lst (ns.map V.int))/\ns.length=wd/\(∀c∈ns,0<=c/\c<=15):=by obtain⟨i,hi⟩:=List.mem_iff_getElem?.mp hq;refine aO (p.at hi) fun r hr e=>?_;refine kE (g.at hr) fun ns e1_ h1 h2 _=>?_;subst e1_;exact dU ns e h1 h2
theorem Good.first {H:Hp} {a:Addr} {ps:List Addr} {rows:List (List Int)} {wd:Nat} (g:Good rows wd) (p:bj H a ps (ir rows)):∃(q:Addr)(ns:List Int),(ps.map V.ref)[0]? =some (.ref q)/\H q=some (.lst (ns.map V.int))/\ns.length=wd:=by
 have hl:ps.length=rows.length:=by have:=p.len;unfold ir at this;rw[List.length_map] at this;exact this
 have h0:0<ps.length:=by have:=g.ne;omega
 have e:ps[0]? =some ps[0]:=by simp[h0]
 refine bL (g.mem p (List.getElem_mem h0)) fun ns h1 h2 _=>?_;exact di (ps[0]) ns (by rw[List.getElem?_map,e];rfl) h1 h2
theorem c7(rows:List (List Int)):(ir rows).length=rows.length:=by unfold ir;rw[List.length_map]
theorem ug(n:List V):(n.map fun _=>true).all id=true:=by
 induction n with
 | nil=>rfl
 | cons x r ih=>rw[List.map_cons,List.all_cons,ih];rfl
end
theorem getElem?_ref{ps:List Addr}{i:Nat}{x:V}(h:(ps.map V.ref)[i]? =some x):∃q,ps[i]? =some q/\x= .ref q:=by
 rw[List.getElem?_map] at h;cases e:ps[i]? with
 | none=>rw[e] at h;cases h
 | some q=>rw[e] at h;cases h;exact⟨q,Z,Z⟩
theorem J6{K:W.Frag}{H:Hp}{v:V}(h:jZ v=true):Kd K H v:=by
 cases v with
 | non=>exact .non
 | bl b=>exact .bl b
 | int i=>exact .int i
 | str x=>exact .str x
 | _=>cases h
theorem Jp{H:Hp}{a:Addr}{xs:List V}(e:rowOf H (.ref a)=some xs):mJ H (.ref a)=true↔(cQ 1 24 (.int (xs.length:Int))=true/\(∀x∈xs,jM H x=true)/\∀x∈xs,lenOf H x=lenOf H (xs.headD .non)):=by unfold mJ;rw[e];simp only[Bool.and_eq_true,List.all_eq_true,decide_eq_true_eq]
theorem Jo{H:Hp}{b:Addr}{ys:List V}(e:H b=some (.lst ys)):jM H (.ref b)=true↔(ys.all (cQ 0 15)=true/\cQ 1 24 (.int (ys.length:Int))=true):=by unfold jM;rw[aV e];simp only[Be,Bool.and_eq_true]
theorem rN{H:Hp}{b:Addr}{ys:List V}(e:H b=some (.lst ys)):lenOf H (.ref b)=ys.length:=by unfold lenOf;rw[aV e]
noncomputable def Q9(K:W.Frag)(H:Hp)(v:V):Prop:=Th K H v/\∀a xs,v= .ref a->H a=some (.tup xs)->∀y∈xs,jZ y=true\/∃b,y= .ref b
section
variable{K:W.Frag}{H:Hp}{q:Addr}{r r':List V}
theorem Rw.lst (e:H q=some (.lst r)) (hl:r.length<=1000) (hk:∀y∈r,Kd K H y):Rw K H (.ref q):=
 ⟨.lst e,fun ys h=>by rw[aV e] at h;cases h;exact hl,fun ys h=>by rw[aV e] at h;cases h;exact hk⟩
theorem Rw.flat {x:V} (h:jZ x=true):Rw K H x:=by
 refine⟨J6 h,fun ys e=>?_,fun ys e=>?_⟩
 ·refine aO (gh e) fun a e1_ _=>?_;subst e1_;cases h
 ·refine aO (gh e) fun a e1_ _=>?_;subst e1_;cases h
theorem Rw.tup {a:Addr} {xs:List V} (e:H a=some (.tup xs)):Rw K H (.ref a):=by
 refine⟨.tup e,fun ys h=>?_,fun ys h=>?_⟩
 ·refine aO (gh h) fun b z e2=>?_;cases z;rw[e] at e2;cases e2
 ·refine aO (gh h) fun b z e2=>?_;cases z;rw[e] at e2;cases e2
theorem CW{a:Addr}(e:H a=some (my a)):rowOf H (.ref a)=Option.none:=by
 cases h:rowOf H (.ref a) with
 | none=>rfl
 | some ys=>obtain⟨b,z,e2⟩:=gh h;cases z;rw[e] at e2;cases e2
theorem Th.lst {p:Addr} {xs:List V} (e:H p=some (.lst xs)) (hl:xs.length<=1000) (hk:∀x∈xs,Rw K H x):Q9 K H (.ref p):=
 ⟨⟨.lst e,fun ys h=>by rw[aV e] at h;cases h;exact hl,fun ys h=>by rw[aV e] at h;cases h;exact hk⟩,fun a ys z e2=>by cases z;rw[e] at e2;cases e2⟩
theorem Th.pic {a:Addr} {ps:List Addr} {R:List (List V)} (p:bj H a ps R) (hl:R.length<=1000) (hr:∀r∈R,r.length<=1000/\∀y∈r,Kd K H y):Q9 K H (.ref a):=by refine Th.lst p.top (by rw[List.length_map,p.len];exact hl) fun x hx=>?_;refine aO (List.mem_map.mp hx) fun q hq e2_=>?_;subst e2_;refine aO (p.mem hq) fun r hrm e=>?_;exact Rw.lst e (hr r hrm).1 (hr r hrm).2
end
section
variable{K:W.Frag}{H:Hp}{a:Addr}{ps:List Addr}{rows:List (List Int)}{wd:Nat}
theorem KY(p:bj H a ps (ir rows))(g:Good rows wd):Q9 K H (.ref a):=by refine Th.pic p (by rw[c7];exact Nat.le_trans g.le (by decide)) fun r hr=>?_;obtain⟨i,hi⟩:=List.mem_iff_getElem?.mp hr;refine kE (g.at hi) fun ms e1_ hw _ _=>?_;subst e1_;exact⟨by rw[List.length_map,hw];exact Nat.le_trans g.w24 (by decide),jJ⟩
theorem Ab(p:bj H a ps (ir rows))(g:Good rows wd):∀x∈ps.map V.ref,lenOf H x=wd:=fun x hx=>by refine aO (List.mem_map.mp hx) fun q hq e2_=>?_;subst e2_;refine bL (g.mem p hq) fun ns e1 e2 _=>?_;rw[rN e1,List.length_map,e2]
theorem Gs(p:bj H a ps (ir rows))(g:Good rows wd):lenOf H ((ps.map V.ref).headD .non)=wd:=by
 refine dB (g.first p) fun q ns e0 e1 e2=>?_;refine Ab p g _ ?_;cases h:ps.map V.ref with
 | nil=>rw[h] at e0;cases e0
 | cons z r=>exact List.mem_cons_self
theorem Fx(p:bj H a ps (ir rows))(g:Good rows wd):mJ H (.ref a)=true:=by
 refine(Jp (aV p.top)).mpr ⟨?_,fun x hx=>?_,fun x hx=>by rw[Ab p g x hx,Gs p g]⟩
 ·rw[List.length_map,p.len,c7];exact Iz g.ne g.le
 ·refine aO (List.mem_map.mp hx) fun q hq e2_=>?_;subst e2_;refine bL (g.mem p hq) fun ns e1 e2 e3=>?_;exact(Jo e1).mpr ⟨Hk e3,by rw[List.length_map,e2];exact Iz g.w1 g.w24⟩
theorem Nx(p:bj H a ps (ir rows))(g:Good rows wd)(z:mJ H (.ref a)=false):False:=by rw[Fx p g] at z;cases z
end
theorem Jy(n:Nat)(xs:List V):(List.replicate n xs).flatten.length=n * xs.length:=by
 induction n with
 | zero=>simp
 | succ n ih=>rw[List.replicate_succ,List.flatten_cons,List.length_append,ih,Nat.succ_mul,Nat.add_comm]
theorem Eh(xs:List V):(List.replicate (25:Int).toNat xs).flatten.length=25 * xs.length:=Jy 25 xs
structure jy(K:W.Frag)(H:Hp)(v:V):Prop where
 th:Th K H v
 no:mJ H v=false
theorem jy.mono {K:W.Frag} {H H':Hp} {v:V} (b:jy K H v) (s:aC H H'):jy K H' v:=⟨b.th.mono s,by rw[Gp b.th s];exact b.no⟩
noncomputable def zP(K:W.Frag)(H:Hp)(vs:List V):Prop:=∀v∈vs,jy K H v
section
variable{K:W.Frag}{H H':Hp}
theorem zP.mono {vs:List V} (b:zP K H vs) (s:aC H H'):zP K H' vs:=fun v hv=>(b v hv).mono s
theorem vM{v:V}(k:Kd K H v)(h:rowOf H v=none):jy K H v:=⟨⟨k,fun ys e=>(by rw[h] at e;cases e),fun ys e=>(by rw[h] at e;cases e)⟩,by unfold mJ;rw[h]⟩
theorem Ek{p:Addr}{xs:List V}(e:H p=some (.lst xs))(hl:xs.length<=1000)(hk:∀x∈xs,Rw K H x)(hw:cQ 1 24 (.int (xs.length:Int))=false):jy K H (.ref p):=
 ⟨(Th.lst e hl hk).1,by unfold mJ;rw[aV e];dsimp only;rw[hw,Bool.false_and]⟩
theorem qJ{p:Addr}{xs:List V}(e:H p=some (.lst xs))(hl:xs.length<=1000)(hk:∀x∈xs,Rw K H x)(hx:∃x∈xs,jM H x=false):jy K H (.ref p):=by
 refine⟨(Th.lst e hl hk).1,?_⟩;refine aO hx fun x hm hq=>?_
 have:xs.all (jM H)=false:=by rw[Bool.eq_false_iff];intro z;rw[List.all_eq_true] at z;rw[z x hm] at hq;cases hq
 unfold mJ;rw[aV e];dsimp only;rw[this,Bool.false_and,Bool.and_false]
theorem Ex{p q:Addr}{r:List V}(e:H p=some (.lst [.ref q]))(eq:H q=some (.lst r))(hl:r.length<=1000)(hk:∀y∈r,Kd K H y)(hq:Be r=false):jy K H (.ref p):=
 qJ e (by show 1<=1000;decide) (fun x hx=>by rw[List.mem_singleton.mp hx];exact Rw.lst eq hl hk) ⟨.ref q,List.mem_singleton.mpr Z,by unfold jM;rw[aV eq];exact hq⟩
end
theorem sI{α:Type}(rows:List (List α))(i:Nat)(r:List α)(h:rows[i]? =some r):(rows.take (i+1)).flatten=(rows.take i).flatten++r:=by rw[List.take_add_one,h];simp
theorem Ew{rows:List (List Int)}{wd:Nat}(h:∀r∈rows,r.length=wd):rows.flatten.length=rows.length * wd:=by
 induction rows with
 | nil=>simp
 | cons r t ih=>
  rw[List.flatten_cons,List.length_append,ih (fun r hr=>h r (List.mem_cons_of_mem _ hr)),h r List.mem_cons_self,List.length_cons,Nat.succ_mul];omega
theorem Good.flat {rows:List (List Int)} {wd:Nat} (g:Good rows wd) (i:Nat):(rows.take i).flatten.length<=576:=by
 rw[Ew (wd:=wd) fun r hr=>(g.row r (List.mem_of_mem_take hr)).1];have h1:(rows.take i).length<=24:=by rw[List.length_take];have:=g.le;omega
 exact Nat.le_trans (Nat.mul_le_mul h1 g.w24) (by decide)
noncomputable def Rz(cs:List (C4))(c:Int):V:= .ref (cs.getD c.toNat (0,0,0,0)).1
noncomputable def BJ(K:W.Frag)(cB:Addr):Sp:=fun vs H Q E=>∃x,vs=[x]/\((∃a ps rows wd,x= .ref a/\bj H a ps (ir rows)/\Good rows wd/\∀p H',aC H H'->H p=none->H' p=some (.lst (rows.flatten.map V.int))->Q (.ref p) H')\/(jy K H x/\∀H',aC H H'->E (.ref cB) none H'))
noncomputable def Eu(K:W.Frag)(cB cN:Addr):Sp:=fun vs H Q E=>∃(x:V)(m:Int),vs=[x,.int m]/\((∃a ps rows wd,x= .ref a/\bj H a ps (ir rows)/\Good rows wd/\(dH rows.flatten<m->∀H',aC H H'->Q .non H')/\(m<=dH rows.flatten->∀H',aC H H'->E (.ref cN) none H'))\/(jy K H x/\∀H',aC H H'->E (.ref cB) none H'))
noncomputable def ux(K:W.Frag)(cB cN cL:Addr):Sp:=fun vs H Q E=>∃(x:V)(p l:Addr)(cs:List (C4)),vs=[x,.ref p]/\fW cL H p l cs/\((∃a ps rows wd,x= .ref a/\bj H a ps (ir rows)/\Good rows wd/\(dH rows.flatten<(cs.length:Int)->∀H',aC H H'->Q .non H')/\((cs.length:Int)<=dH rows.flatten->∀H',aC H H'->E (.ref cN) none H'))\/(jy K H x/\∀H',aC H H'->E (.ref cB) none H'))
theorem Good.fne {rows:List (List Int)} {wd:Nat} (g:Good rows wd):rows.flatten≠[]:=fun z=>by have:=Ew (wd:=wd) fun r hr=>(g.row r hr).1;rw[z] at this;have h1:=g.ne;have h2:=g.w1;have:rows.length * wd=0:=this.symm;rcases Nat.mul_eq_zero.mp this with h | h<;>omega
theorem Good.flat_mem {rows:List (List Int)} {wd:Nat} (g:Good rows wd) {c:Int} (h:c∈rows.flatten):0<=c/\c<=15:=by refine aO (List.mem_flatten.mp h) fun r hr hc=>?_;exact(g.row r hr).2 c hc
theorem Good.mem2 {H:Hp} {a q:Addr} {ps:List Addr} {rows:List (List Int)} {wd:Nat} (g:Good rows wd) (p:bj H a ps (ir rows)) (hq:q∈ps):∃(ns:List Int),H q=some (.lst (ns.map V.int))/\ns.length=wd/\(∀c∈ns,0<=c/\c<=15)/\ns∈rows:=by obtain⟨i,hi⟩:=List.getElem?_of_mem hq;refine aO (p.at hi) fun r hr e=>?_;refine kE (g.at hr) fun ns e1_ h1 h2 h3=>?_;subst e1_;exact kJ ns e h1 h2 h3
section
variable{P:Program}{w:World}{K:W.Frag}{mg:Str->Option Value}{base:Heap}{cFE cC cN cM cP cL cB cD cZ:Addr}{tP tS tC tI:Tok}
theorem mO:aL ["picture","cells","row"] ["picture"] (aA oh):=by walk_at "s"
theorem yO{f:Addr}{fd:FuncData}(F:bf K "all_cells" "all_cells" oh .none f fd)(T:Txt K mg cFE cC cN cM cP cL cB cD cZ tP tS tC tI)(g_need_picture:DefX P w K mg base 7 "need_picture" ["picture"] [] (IV K cB)):bD P w K mg base (kj P w) 8 f fd ["picture"] (BJ K cB):=by
 refine F.okX mO (fun vs H Q E h=>?_) (fun cdv A outer s H vs Q E hr h=>?_)
 ·refine aO h fun x e1_ _=>?_;subst e1_;rfl
 ·obtain⟨x,rfl,h⟩:=h
  refine⟨_,(ao (bQ (bB g_need_picture (hr.mono (by decide)) eV Z (aa (pv 0) aj)))
    (ao (aK (i:=1) mO.nd Z (.inl Z) (bW aj))
    (ao (PS.nox (gm PassesOwn.never Z (oY K Z (pv 0)) (aJ (i:=2) mO.nd Z (.inl Z)) (az (bQ (ju PySem.F.plainAttrs_list PySem.F.slot_list_extend PySem.F.type_list_extend Ga (pv 1) (aa (pv 2) aj))))))
    (az (aN (pv 1)))))),?_⟩
  rcases h with⟨a,ps,rows,wd,rfl,pic,gd,k⟩ | ⟨bad,k⟩
  ·refine m8 _ Z _ Z ((KY pic gd).1) (fun _ H1 s1=>⟨Nat.zero_le _,fun p hp=>bc _ Z a Z ⟨_,aP.of (au hp _ _ (s1 _ _ pic.top))⟩ ?_⟩) fun z=>(Nx pic gd z).elim;have hp0:H p=none:=s1.free hp;refine j7 (xs:=ps.map V.ref) (fun i σ H2=>aC H1 H2/\H2 p=some (.lst ((rows.take i).flatten.map V.int))/\∃v,σ=[some (.ref a),some (.ref p),v]) (JS (au hp) (by rw[ak];rfl) ⟨none,Z⟩) (fun i σ H2 _ q=>aP.of (q.1 _ _ (s1 _ _ pic.top))) ?_ ?_
   ·rintro i x σ H2 hx ⟨s2,hp2,v,rfl⟩;rw[List.getElem?_map] at hx;cases e:ps[i]? with
    | none=>rw[e] at hx;cases hx
    | some q=>
     rw[e] at hx;cases hx;obtain⟨r,hr,hq⟩:=pic.at e;unfold ir at hr;rw[List.getElem?_map] at hr;cases er:rows[i]? with
     | none=>rw[er] at hr;cases hr
     | some ns=>
      rw[er] at hr;cases hr;have hq2:=s2 _ _ (s1 _ _ hq)
      have hlen:(((rows.take i).flatten.map V.int).length+(ns.map V.int).length)<=sizeLine:=by have e1:=sI rows i ns er;have e2:=gd.flat (i+1);rw[e1,List.length_append] at e2;rw[List.length_map,List.length_map];exact Nat.le_trans e2 (by decide)
      refine dz _ Z (.inl ⟨Z,_,aP.of hp2⟩) _ Z (tK p q _ _ Z Z hp2 hq2 hlen (cz s2 hp) ⟨?_,_,Z⟩);rw[ak,sI rows i ns er,List.map_append]
   ·rintro σ H2 ⟨s2,hp2,v,rfl⟩;refine⟨_,Z,k p H2 (s1.trans s2) hp0 ?_⟩;rw[hp2,List.length_map,pic.len,c7,List.take_length]
  ·exact m8 _ Z x Z bad.th (fun z=>(by rw[bad.no] at z;cases z)) fun _=>k
theorem pG:aL ["picture","many"] ["picture","many"] (aA gU):=by walk_at "s"
theorem pH{f:Addr}{fd:FuncData}(F:bf K "need_cells_below" "need_cells_below" gU .none f fd)(T:Txt K mg cFE cC cN cM cP cL cB cD cZ tP tS tC tI)(g_all_cells:DefX P w K mg base 8 "all_cells" ["picture"] [] (BJ K cB)):bD P w K mg base (kj P w) 9 f fd ["picture","many"] (Eu K cB cN):=by
 refine F.okX pG (fun vs H Q E h=>?_) (fun cdv A outer s H vs Q E hr h=>?_)
 ·refine gP h fun x m e2_ _=>?_;subst e2_;rfl
 ·obtain⟨x,m,rfl,h⟩:=h;refine⟨_,(az (bN (aW PN (aR (rD K Z Z) Z T.max PyProof.Rows.boot_max (aa (bB g_all_cells (hr.mono (by decide)) eV Z (aa (pv 0) aj)) aj)) (pv 1) (aZ _)) (az (jo Z lq Z T.NoColour T.xNoColour (aa dC aj))) aX)),?_⟩;rcases h with⟨a,ps,rows,wd,rfl,pic,gd,kY,kN⟩ | ⟨bad,k⟩
  ·refine bT _ Z _ Z (.inl (fV a ps rows wd Z pic gd fun p H1 s1 hp ep=>?_));refine cR p _ Z (aP.of ep) gd.fne (fB _ Z (fZ _ _ Z Z _ Z (nZ (fun h=>?_) (fun h=>?_))))
   ·exact⟨uC,kN (of_decide_eq_true h) H1 s1⟩
   ·exact kY (by have:=of_decide_eq_false h;omega) H1 s1
  ·exact bT _ Z x Z (.inr ⟨bad,k⟩)
theorem wR:aL ["picture","palette"] ["picture","palette"] (aA m5):=by walk_at "s"
theorem wF{f:Addr}{fd:FuncData}(F:bf K "need_shown" "need_shown" m5 .none f fd)(T:Txt K mg cFE cC cN cM cP cL cB cD cZ tP tS tC tI)(g_need_cells_below:DefX P w K mg base 9 "need_cells_below" ["picture","many"] [] (Eu K cB cN))(g_m_many:ym P w K mg base cL 1 "many" ["self"] (vJ cL)):bD P w K mg base (kj P w) 10 f fd ["picture","palette"] (ux K cB cN cL):=by
 refine F.okX wR (fun vs H Q E h=>?_) (fun cdv A outer s H vs Q E hr h=>?_)
 ·refine gn h fun x p l cs e4_ _=>?_;subst e4_;rfl
 ·refine gn h fun x p l cs e4_ p5_=>?_;subst e4_;obtain⟨pq,h⟩:=p5_;obtain⟨⟨dx,hp⟩,cv⟩:=id pq;refine⟨_,(az (bQ (bB g_need_cells_below (hr.mono (by decide)) eV Z (aa (pv 0) (aa (fU (pv 1) T.cl g_m_many (hr.mono (by decide))) aj))))),?_⟩;exact fB _ Z (bz _ Z p dx _ Z hp (dM (by decide+kernel)) (iu p l cs Z pq (mF x _ Z h)))
end
end K19
namespace L2
open PySem PySem.Spec PyProof.Rows
noncomputable def iW(cells:List (Str×Addr)):List (Str×NameKind)->List (Str×Addr)->List (Str×Addr)
 | [],acc=>acc
 | (n,k)::r,acc=>if k== .free then iW cells r ((n,(cells.lookup n).getD 0)::acc) else iW cells r acc
noncomputable def iw(sc:Scope)(cells:List (Str×Addr)):Prop:=∀x,(x,NameKind.free)∈sc.names->∃c,cells.lookup x=some c
theorem p7{env:Env}(f:Str×NameKind->List (Str×Addr)->Sem (ForInStep (List (Str×Addr))))(h1:∀n r,f (n,.free) r=(do let c <-cellOf env n;pure (.yield ((n,c)::r))))(h2:∀n k r,(k==NameKind.free)=false->f (n,k) r=pure (.yield r)):
  ∀(l:List (Str×NameKind))(acc:List (Str×Addr)),(∀x,(x,NameKind.free)∈l->∃c,env.cells.lookup x=some c)->forIn l acc f=pure (iW env.cells l acc)
 | [],acc,_=>Z
 | (n,k)::r,acc,h=>by
  rw[List.forIn_cons];unfold iW;cases hk:k==NameKind.free with
  | true=>
   have e:k= .free:=by simpa using hk
   subst e;obtain⟨c,hc⟩:=h n List.mem_cons_self;have hcell:cellOf env n=pure c:=by unfold cellOf;rw[hc]
   rw[h1,hcell,if_pos rfl,hc];simp only[pure_bind,Option.getD_some];exact p7 f h1 h2 r _ fun x hx=>h x (List.mem_cons_of_mem _ hx)
  | false=>
   rw[h2 _ _ _ hk,pure_bind];simp only[Bool.false_eq_true,if_false];exact p7 f h1 h2 r _ fun x hx=>h x (List.mem_cons_of_mem _ hx)
theorem wI{sc:Scope}{env:Env}(h:iw sc env.cells):closureFor sc env=pure (iW env.cells sc.names []):=by
 unfold closureFor
 dsimp only
 rw[p7 (env:=env) _ (fun n r=>rfl) (fun n k r hk=>by simp only[hk,Bool.false_eq_true,if_false]) sc.names [] h];rfl
theorem vz{cells:List (Str×Addr)}{x:Str}{c:Addr}:∀(l:List (Str×NameKind))(acc:List (Str×Addr)),(∀x,(x,NameKind.free)∈l->∃c,cells.lookup x=some c)->(∀x c,acc.lookup x=some c->cells.lookup x=some c)->(iW cells l acc).lookup x=some c->cells.lookup x=some c
 | [],acc,_,ha,h=>ha x c h
 | (n,k)::r,acc,hl,ha,h=>by
  unfold iW at h;cases hk:k==NameKind.free with
  | true=>
   have e:k= .free:=by simpa using hk
   subst e;rw[if_pos hk] at h;obtain⟨d,hd⟩:=hl n List.mem_cons_self;refine vz r _ (fun y hy=>hl y (List.mem_cons_of_mem _ hy)) (fun y c' hy=>?_) h;rw[hd,Option.getD_some,List.lookup_cons] at hy;cases hyn:y==n with
   | true=>
    rw[hyn] at hy;have e:y=n:=by simpa using hyn
    rw[e,hd];exact hy
   | false=>
    rw[hyn] at hy;exact ha y c' hy
  | false=>
   rw[hk] at h;simp only[Bool.false_eq_true,if_false] at h;exact vz r _ (fun y hy=>hl y (List.mem_cons_of_mem _ hy)) ha h
theorem mj{cells:List (Str×Addr)}{x:Str}:∀(l:List (Str×NameKind))(acc:List (Str×Addr)),((∃c,acc.lookup x=some c)\/(x,NameKind.free)∈l)->∃c,(iW cells l acc).lookup x=some c
 | [],acc,h=>h.elim id fun z=>nomatch z
 | (n,k)::r,acc,h=>by
  unfold iW;cases hk:k==NameKind.free with
  | true=>
   have e:k= .free:=by simpa using hk
   subst e;rw[if_pos rfl];refine mj r _ ?_;by_cases hx:x=n
   ·exact .inl ⟨(cells.lookup n).getD 0,by rw[hx,List.lookup_cons];simp⟩
   ·rcases h with⟨c,h⟩ | h
    ·refine .inl ⟨c,?_⟩;have:(x==n)=false:=by simpa using hx
     rw[List.lookup_cons,this];exact h
    ·rcases List.mem_cons.mp h with z | z
     ·cases z;exact absurd Z hx
     ·exact .inr z
  | false=>
   simp only[Bool.false_eq_true,if_false];refine mj r _ ?_;rcases h with h | h
   ·exact .inl h
   ·rcases List.mem_cons.mp h with z | z
    ·cases z;cases hk
    ·exact .inr z
structure Dk where
 prm:Arguments
 body:Expr
 sc:Scope
 qual:Str
 cl:List (Str×Addr)
 dV:Value
 c:Addr
noncomputable abbrev Dk.fn (L:Dk) (doc pm ctv:Value):FuncData:=W.kdv_fn "<lambda>" L.qual L.prm (.expr L.body) L.sc L.cl L.dV doc pm (.ref L.c) ctv
noncomputable def mD(f:Addr)(L:Dk):HO:= .ext fun h=>∃doc pm ctv,h.get? f=some (W.kdv_obj "<lambda>" L.qual L.prm (.expr L.body) L.sc L.cl L.dV doc pm L.c ctv)
theorem Ay{P:Program}{w:World}{H:Hp}{h:Heap}{f:Addr}{L:Dk}{doc pm ctv:Value}(e:h.get? f=some (W.kdv_obj "<lambda>" L.qual L.prm (.expr L.body) L.sc L.cl L.dV doc pm L.c ctv)):dO P w H h f (mD f L):=
 ⟨⟨doc,pm,ctv,e⟩,⟨_,e⟩,fun h1 h2 ⟨doc,pm,ctv,e⟩ k=>⟨doc,pm,ctv,k _ e⟩⟩
noncomputable def HF(P:Addr)(pos:Pos)(qual:Str)(W:Addr->Dk)(H:Hp)(Q:VK):Prop:=∃ps:Array Value,H P=some (.tbl ps)/\TriplesOk ps.toList/\
 ((codeAmong pos ps.toList=none/\∀c' f,H c'=none->H f=none->c'≠f->c'≠P->f≠P->Q (.ref f) (upd (upd (upd H P (.tbl (ps++#[rawInt pos.line,rawInt pos.col,.ref c']))) c' (jU c' qual)) f (mD f (W c'))))
 \/(∃c',codeAmong pos ps.toList=some (.ref c')/\H c'=some (jU c' qual)/\∀f,H f=none->Q (.ref f) (upd H f (mD f (W c')))))
section
variable{X:Cx}
theorem HX{prm:Arguments}{body:Expr}{sc:Scope}{pos:Pos}{c P:Addr}{dV:Value}{clos:List (Str×Addr)}{pins:List (Addr×Obj)}{s:Shared}{σ:St}{H:Hp}{Q:VK}{ln:Nat}(hcode:X.env.code= .ref c)(C:W.CodeHd X.base c P)(hB:BMain X.mg X.base)(hcl:closureFor sc X.env=pure clos)(I:Inv X pins σ H s)(h:HF P pos (X.env.qual++"<lambda>") (fun c'=>⟨prm,body,sc,X.env.qual++"<lambda>",clos,dV,c'⟩) H Q):
  wpAny (model X.prog X.w) X.A (makeTail "<lambda>" (X.env.qual++"<lambda>") prm (.expr body) sc X.env dV .none none pos ln) (EP X pins σ Q) X.xe s:=by
 refine bL h fun ps hP ht h=>?_;have eP:s.heap.get? P=some (W.tabObj ps):=I.hok P _ hP;have Cs:W.CodeHd s.heap c P:=C.keeps I.bk
 have nb:∀b o,X.base.get? b=some o->b≠P:=fun b o e z=>by have:=(I.bs b o e).2;rw[z,hP] at this;cases this
 have hgb:=I.mod.glob;have hg:s.heap.Ns mainGlobals X.mg:=hgb.keeps I.bk
 have hgP:mainGlobals≠P:=by refine pM hgb fun o es ep e _=>?_;exact nb _ _ e
 have hb:s.heap.BuiltinsAt X.mg P:=by refine oM hB fun bm ob b1 b2 b3 b4 b5 b6=>?_;refine⟨bm,ob,b1,b2,fun z=>?_,nb _ _ b3,I.bk _ _ b3,b4,b5,b6⟩;refine oR hgb fun o es ep e hd _=>?_;rw[z,e] at b3;cases b3;rw[hd] at b6;cases b6
 rcases h with⟨hnf,q⟩ | ⟨c',hf,hc',q⟩
 ·refine W.kdv_makeTail (mg:=X.mg) hcl I.ok.glob hg hcode Cs eP ht hnf hgP hb fun c' ctv doc h' tk hx hge hlt hrec htb=>?_;have lt:∀b u,s.heap.get? b=some u->b<c':=fun b u e=>Nat.lt_of_lt_of_le (Heap.lt_size e) hge
  have nP:c'≠P:=fun z=>by have:=lt _ _ eP;rw[z] at this;exact Nat.lt_irrefl _ this
  have nfP:h'.objs.size≠P:=fun z=>by have:=lt _ _ eP;rw[<-z] at this;exact Nat.lt_irrefl _ (Nat.lt_trans this hlt)
  have hc0:H c'=none:=I.hok.fresh hge;have hf0:H h'.objs.size=none:=I.hok.fresh (Nat.le_of_lt (Nat.lt_of_le_of_lt hge hlt));have up:∀b u,b≠P->s.heap.get? b=some u->∀ob,(h'.push ob).get? b=some u:=fun b u nbp e ob=>Heap.get?_push_of_some _ (hx b u nbp e)
  have eq:∀b,b≠P->b<c'->upd (upd (upd H P (.tbl (ps++#[rawInt pos.line,rawInt pos.col,.ref c']))) c' (jU c' (X.env.qual++"<lambda>"))) h'.objs.size (mD h'.objs.size ⟨prm,body,sc,X.env.qual++"<lambda>",clos,dV,c'⟩) b=H b:=fun b n1 n2=>by rw[aB (fun z=>by rw[z] at n2;exact Nat.lt_irrefl _ (Nat.lt_trans n2 hlt)),aB (fun z=>by rw[z] at n2;exact Nat.lt_irrefl _ n2),aB n1]
  have atP:upd (upd (upd H P (.tbl (ps++#[rawInt pos.line,rawInt pos.col,.ref c']))) c' (jU c' (X.env.qual++"<lambda>"))) h'.objs.size (mD h'.objs.size ⟨prm,body,sc,X.env.qual++"<lambda>",clos,dV,c'⟩) P=some (.tbl (ps++#[rawInt pos.line,rawInt pos.col,.ref c'])):=by rw[aB (Ne.symm nfP),aB (Ne.symm nP),ak]
  refine⟨.ref h'.objs.size,_,I.un (t':=tk) (h':=h'.push _) ⟨fun b o e n _ _=>?_,fun b o e n _ _=>?_,fun b o e n _=>?_,fun b o e _=>?_,fun b xs e=>?_,fun b o u e=>?_,fun b ps' e=>?_⟩ (fun b u e=>?_),Z,q c' h'.objs.size hc0 hf0 (Nat.ne_of_lt hlt) nP nfP⟩
  ·exact up b o (fun z=>by rw[z,hP] at n;cases n) e _
  ·exact⟨o.slots,up b o (fun z=>by rw[z,hP] at n;cases n) e _⟩
  ·rw[eq b (fun z=>by rw[z,hP] at n;cases n) (lt b o e)];exact n
  ·by_cases z:b=P
   ·rw[z];exact⟨_,Heap.get?_push_of_some _ htb⟩
   ·exact⟨o,up b o z e _⟩
  ·rw[eq b (fun z=>by rw[z,hP] at e;cases e) (Nat.lt_of_lt_of_le (I.hok b _ e).lt hge)];exact e
  ·rw[eq b (fun z=>by rw[z,hP] at e;cases e) (Nat.lt_of_lt_of_le (I.hok b _ e).lt hge)];exact e
  ·by_cases z:b=P
   ·rw[z,hP] at e;cases e;exact⟨_,by rw[z];exact atP⟩
   ·exact⟨#[],by rw[eq b z (Nat.lt_of_lt_of_le (I.hok b _ e).lt hge),e];simp⟩
  ·by_cases z1:b=h'.objs.size
   ·rw[z1,ak] at e;cases e;rw[z1];exact Ay (L:=⟨prm,body,sc,X.env.qual++"<lambda>",clos,dV,c'⟩) (Heap.get?_push_size _ Z)
   ·by_cases z2:b=c'
    ·rw[aB z1,z2,ak] at e;cases e;rw[z2];refine Hm ?_;refine jq hrec fun c3 o3 v3 t3 e3 f1 f2 f3=>?_;exact⟨c3,o3,v3,t3,e3,Heap.get?_push_of_some _ f1,f2,f3⟩
    ·by_cases z3:b=P
     ·rw[z3,atP] at e;cases e;rw[z3];exact Heap.get?_push_of_some _ htb
     ·rw[aB z1,aB z2,aB z3] at e;refine(I.hok b u e).stay (fun b' u' hc q'=>?_) (fun b' hb'=>?_) fun b' xs hb'=>?_
      ·refine up b' u' ?_ q' _;rcases hc with z | z
       ·rw[z];exact z3
       ·intro y;rw[y,hP] at z;cases z
      ·rw[eq b' (fun z=>by rw[z,hP] at hb';cases hb') (Nat.lt_of_lt_of_le (I.hok b' _ hb').lt hge)];exact hb'
      ·rw[eq b' (fun z=>by rw[z,hP] at hb';cases hb') (Nat.lt_of_lt_of_le (I.hok b' _ hb').lt hge)];exact hb'
 ·refine wj ((show dO X.prog X.w H s.heap c' (jU c' (X.env.qual++"<lambda>")) from I.hok c' _ hc')) fun hrec _ _=>?_;refine W.kdv_makeTailHit (mg:=X.mg) hcl I.ok.glob hg hcode Cs eP ht hf hb fun ctv doc h' tk hk hsz=>?_;refine⟨.ref h'.objs.size,_,I.laid (t':=tk) (o:=mD h'.objs.size ⟨prm,body,sc,X.env.qual++"<lambda>",clos,dV,c'⟩) (fun b u e=>Heap.get?_push_of_some _ (hk b u e)) hsz (Ay (L:=⟨prm,body,sc,X.env.qual++"<lambda>",clos,dV,c'⟩) (Heap.get?_push_size _ Z)),Z,q _ (I.hok.fresh hsz)⟩
noncomputable def Er(P:Addr)(pos:Pos)(prm:Arguments)(body:Expr)(sc:Scope)(qual:Str)(cl:List (Str×Addr)):TE:=fun _ H Q=>HF P pos qual (fun c'=>⟨prm,body,sc,qual,cl,.none,c'⟩) H Q
theorem zE{prm:Arguments}{body:Expr}{sc:Scope}{pos:Pos}{c P:Addr}(hcode:X.env.code= .ref c)(C:W.CodeHd X.base c P)(hB:BMain X.mg X.base)(hfr:iw sc X.env.cells)(hdef:defaultsOf prm X.env=([],[]):=by rfl):
  PE X (.Lambda prm body sc pos) (Er P pos prm body sc (X.env.qual++"<lambda>") (iW X.env.cells sc.names [])):=by
 intro pins s σ H Q I h;refine W.kla_eval hdef ?_;rw[makeFunction_eq];simp only[List.zip_nil_right,List.filterMap_nil,List.isEmpty_nil,if_true,pure_bind];exact HX hcode C hB (wI hfr) I h
end
theorem tQ{a b:Nat}{c:Value}:∀(l:List Value),TriplesOk l->TriplesOk (l++[rawInt a,rawInt b,c])
 | [],_=>trivial
 | .int _ _:: .int _ _::_::r,h=>tQ (a:=a) (b:=b) (c:=c) r h
theorem xu{pos:Pos}{a b:Nat}{c cv:Value}:∀(l:List Value),TriplesOk l->codeAmong pos (l++[rawInt a,rawInt b,c])=some cv->codeAmong pos l=some cv\/cv=c
 | [],_,h=>by
  right
  have h':(if((a:Int)==pos.line&&(b:Int)==pos.col)=true then some c else none)=some cv:=h
  split at h'
  ·cases h';rfl
  ·cases h'
 | .int i _:: .int j _::d::r,ht,h=>by
  have h':(if((i:Int)==pos.line&&(j:Int)==pos.col)=true then some d else codeAmong pos (r++[rawInt a,rawInt b,c]))=some cv:=h;show(if((i:Int)==pos.line&&(j:Int)==pos.col)=true then some d else codeAmong pos r)=some cv\/cv=c
  split at h'
  ·rename_i e;rw[if_pos e];exact .inl h'
  ·rename_i e;rw[if_neg e];exact xu r ht h'
noncomputable def m7(ts:List Addr)(p:Addr)(qual:Str)(H:Hp):Prop:=∃ps:Array Value,H p=some (.tbl ps)/\TriplesOk ps.toList/\∀pos cv,codeAmong pos ps.toList=some cv->∃c,cv= .ref c/\c∉ts/\H c=some (jU c qual)
theorem m7.start {ts:List Addr} {p:Addr} {qual:Str} {H:Hp} (h:H p=some (.tbl #[])):m7 ts p qual H:=⟨#[],h,trivial,fun pos cv e=>nomatch e⟩
theorem m7.but {ts:List Addr} {p:Addr} {qual:Str} {H H':Hp} (t:m7 ts p qual H) (h1:H' p=H p) (h2:∀b o,b∉ts->H b=some o->H' b=some o):m7 ts p qual H':=by refine bL t fun ps e o k=>?_;refine⟨ps,h1.trans e,o,fun pos cv q=>?_⟩;refine bL (k pos cv q) fun c e1 e2 e3=>?_;exact⟨c,e1,e2,h2 c _ e2 e3⟩
theorem m7.mono {ts:List Addr} {p:Addr} {qual:Str} {H H':Hp} (t:m7 ts p qual H) (s:aC H H'):m7 ts p qual H':=by refine bL t fun ps e o k=>?_;refine⟨ps,s _ _ e,o,fun pos cv q=>?_⟩;refine bL (k pos cv q) fun c e1 e2 e3=>?_;exact⟨c,e1,e2,s _ _ e3⟩
theorem uG{ts:List Addr}{p:Addr}{pos:Pos}{qual:Str}{W:Addr->Dk}{H:Hp}{Q:VK}(hp:p∈ts)(hts:∀t∈ts,H t≠none)(t:m7 ts p qual H)(k:∀f c H',qT ts H H'->(∀t∈ts,t≠p->H' t=H t)->m7 ts p qual H'->H' f=some (mD f (W c))->H' c=some (jU c qual)->Q (.ref f) H'):HF p pos qual W H Q:=by
 have nts:∀{b},H b=none->b∉ts:=fun{b} e z=>hts b z e;refine bL t fun ps e1 ok all=>?_;refine⟨ps,e1,ok,?_⟩;cases hc:codeAmong pos ps.toList with
 | none=>
  refine .inl ⟨Z,fun c f hc0 hf ncf ncp nfp=>?_⟩
  have old:∀b o,b≠p->H b=some o->upd (upd (upd H p (.tbl (ps++#[rawInt pos.line,rawInt pos.col,.ref c]))) c (jU c qual)) f (mD f (W c)) b=some o:=fun b o nb e=>by
   have nbf:b≠f:=fun z=>by rw[z,hf] at e;cases e
   have nbc:b≠c:=fun z=>by rw[z,hc0] at e;cases e
   rw[aB nbf,aB nbc,aB nb];exact e
  refine k f c _ (fun b o nb e=>old b o (fun z=>nb (by rw[z];exact hp)) e) (fun t' ht' ne=>?_) ⟨ps++#[rawInt pos.line,rawInt pos.col,.ref c],?_,?_,fun pos' cv q=>?_⟩ ak (by rw[aB ncf,ak])
  ·have n1:t'≠f:=fun z=>hts t' ht' (by rw[z];exact hf);have n2:t'≠c:=fun z=>hts t' ht' (by rw[z];exact hc0);rw[aB n1,aB n2,aB ne]
  ·rw[aB (Ne.symm nfp),aB (Ne.symm ncp),ak]
  ·rw[Array.toList_append];exact tQ _ ok
  ·rw[Array.toList_append] at q;rcases xu _ ok q with q | q
   ·refine bL (all pos' cv q) fun c2 z1 z2 z3=>?_;exact⟨c2,z1,z2,old c2 _ (fun z=>z2 (by rw[z];exact hp)) z3⟩
   ·exact⟨c,q,nts hc0,by rw[aB ncf,ak]⟩
 | some cv=>
  refine bL (all pos cv hc) fun c e1_ n e2=>?_;subst e1_;refine .inr ⟨c,Z,e2,fun f hf=>k f c _ (qT.of (au hf)) (fun t' ht' ne=>?_) (m7.mono ⟨ps,e1,ok,all⟩ (au hf)) ak (au hf _ _ e2)⟩;have n1:t'≠f:=fun z=>hts t' ht' (by rw[z];exact hf);rw[aB n1]
noncomputable def Qz(P:Program)(w:World)(K:W.Frag)(mg:Str->Option Value)(base:Heap)(N:List Str)(qual:Str)(scope:Scope)(f:Addr)(cd:Value)(cl:List (Str×Addr))(A:Around)(outer:List Env)(s:Shared)(H:Hp)(E:XK):Cx where
 prog:=P
 w:=w
 K:=K
 mg:=mg
 base:=base
 A:=A.deeper (W.envX qual scope s.heap.objs.size f cd cl)
 N:=N
 s₀:=s
 H₀:=H
 env:=W.envX qual scope s.heap.objs.size f cd cl
 outer:=outer
 stack:=W.envX qual scope s.heap.objs.size f cd cl::outer
 ex:=[]
 calm:=true
 fn:=fun _=>false
 pn:=[]
 xe:=fun e s'=>wpAny (model P w) (A.deeper (W.envX qual scope s.heap.objs.size f cd cl)) (leaving (W.envX qual scope s.heap.objs.size f cd cl) e) (fun _ s''=>kj P w outer H s E e s'') (fun e' s''=>kj P w outer H s E e' s'') s'
section
variable{P:Program}{w:World}{K:W.Frag}{mg:Str->Option Value}{base:Heap}{N:List Str}{qual:Str}{scope:Scope}{f:Addr}{cd:Value}{cl:List (Str×Addr)}{A:Around}{outer:List Env}{s₀:Shared}{H₀:Hp}{E:XK}
theorem DK:lu (kj P w) (Qz P w K mg base N qual scope f cd cl A outer s₀ H₀ E) fun _=>E:=by
 intro pins σ H s e s' I hc;refine dJ hc fun ea cls a0 H' B e5_ fl nc os bare fw q=>?_;subst e5_;have fr:frs (W.envX qual scope s₀.heap.objs.size f cd cl::outer)=s₀.heap.objs.size::frs outer:=Z
 have neL:∀b o,s₀.heap.get? b=some o->b∉frs outer->b∉frs (W.envX qual scope s₀.heap.objs.size f cd cl::outer):=fun b o e hb z=>by
  rw[fr] at z;rcases List.mem_cons.mp z with z | z
  ·have:=Heap.lt_size e;rw[z] at this;exact absurd this (Nat.lt_irrefl _)
  ·exact hb z
 show wpAny (model P w) (A.deeper (W.envX qual scope s₀.heap.objs.size f cd cl)) (leaving (W.envX qual scope s₀.heap.objs.size f cd cl) (.ref ea)) (fun _ s''=>kj P w outer H₀ s₀ E (.ref ea) s'') (fun e' s''=>kj P w outer H₀ s₀ E e' s'') s';refine vP I.ok.frames Z fl nc fun h'' fl'' nc'' up=>?_;have fu:=fw.up fl up;have ub:Un (frs outer) [] H₀ H s₀.heap s.heap:=I.base;refine⟨ea,cls,a0,H',B,Z,fl'',nc'',os.trans I.os,bare,⟨fw.hok,fun b o e n hb=>?_,fun b o e hb=>?_,fun b o e n=>?_,fun b o e hb=>?_,fun b xs e=>fw.tups b xs (ub.tups b xs e),fun b o u e=>fw.frzs b o u (ub.frzs b o u e),fun b ps e=>?_,fw.exc⟩,q⟩
 ·exact fw.keep b o (ub.keep b o e n hb (by simp)) (ub.free b o e n (by simp)) (neL b o e hb)
 ·obtain⟨sl,e1⟩:=ub.slot b o e (I.ok.frf b hb) hb (by simp);obtain⟨sl',e2⟩:=fu.slot b _ e1 (show b∈frs (W.envX qual scope s₀.heap.objs.size f cd cl::outer) by rw[fr];exact List.mem_cons_of_mem _ hb);exact⟨sl',e2⟩
 ·obtain⟨o',e1⟩:=ub.there b o e (by simp);exact fw.free b o' e1 (ub.free b o e n (by simp))
 ·obtain⟨o',e1⟩:=ub.there b o e (by simp);exact fw.there b o' e1 (neL b o e hb)
 ·obtain⟨m1,e1⟩:=ub.tbls b ps e;obtain⟨m2,e2⟩:=fw.tbls b _ e1;exact⟨m1++m2,by rw[e2,Array.append_assoc]⟩
end
structure Ea(N:List Str)(sc:Scope):Prop where
 kind:sc.kind= .function
 co:sc.isCoroutine=false
 gen:sc.isGenerator=false
 nocell:∀y∈sc.names,y.2≠ .cell
 free:∀x∈N,sc.names.lookup x=some .free
structure qY(base:Heap)(N:List Str)(cl:List (Str×Addr))(σ:St):Prop where
 inj:∀x y c,cl.lookup x=some c->cl.lookup y=some c->x=y
 all:∀x c,cl.lookup x=some c->∃v,base.IsCell c v
 val:∀(i:Nat)(x:Str)(v:V),N[i]? =some x->σ[i]? =some (some v)->∃c u,cl.lookup x=some c/\RelV v u/\base.IsCell c (some u)
 len:σ.length=N.length
section
variable{X:Cx}
structure lH(K:W.Frag)(mg:Str->Option Value)(base:Heap):Prop where
 kin:K.In base
 ns:base.Ns mainGlobals mg
 bm:BMain mg base
noncomputable def Ba(X:Cx)(σ:St)(base':Heap):Prop:=(∀x y c,X.env.cells.lookup x=some c->X.env.cells.lookup y=some c->x=y)/\(∀x c,X.env.cells.lookup x=some c->∃v,base'.IsCell c v)/\∀(i:Nat)(x:Str)(v:V)(c:Addr),X.N[i]? =some x->σ[i]? =some (some v)->X.env.scope.names.lookup x=some .cell->X.env.cells.lookup x=some c->∃u,RelV v u/\base'.IsCell c (some u)
theorem BMain.keeps {mg:Str->Option Value} {b b':Heap} (h:BMain mg b) (k:∀a o,b.get? a=some o->b'.get? a=some o):BMain mg b':=by refine oM h fun bm ob b1 b2 b3 b4 b5 b6=>?_;exact⟨bm,ob,b1,b2,k _ _ b3,b4,b5,b6⟩
theorem rebase{pins:List (Addr×Obj)}{σ:St}{H:Hp}{s:Shared}(I:Inv X pins σ H s)(hB:BMain X.mg X.base)(hfn:∀x,X.fn x=true):∃base',lH X.K X.mg base'/\Ba X σ base'/\pC X.prog X.w X.K X.mg base' X.A X.stack s H:=by
 have hin:∀env∈X.stack,∀b,env.frame=some b->b∈frs X.stack++FW s.heap H:=fun env he b hb=>List.mem_append_left _ (List.mem_filterMap.mpr ⟨env,he,hb⟩)
 have notT:∀b,H b=none->b∉FW s.heap H:=fun b n z=>by have:=(List.mem_filter.mp z).2;rw[n] at this;cases this
 have toB:∀b o,s.heap.get? b=some o->H b=none->b∉frs X.stack->(W.hideAll s.heap (frs X.stack++FW s.heap H)).get? b=some o:=fun b o e n hb=>W.hideAll_get _ e fun z=>(List.mem_append.mp z).elim hb (notT b n)
 have ofB:∀b o,(W.hideAll s.heap (frs X.stack++FW s.heap H)).get? b=some o->s.heap.get? b=some o/\H b=none:=fun b o e=>by
  have e1:=W.of_hideAll _ e;refine⟨e1,?_⟩;cases q:H b with
  | none=>rfl
  | some u=>
   have m:b∈FW s.heap H:=List.mem_filter.mpr ⟨List.mem_range.mpr (Heap.lt_size e1),by rw[q];rfl⟩;rw[W.hideAll_none _ (List.mem_append_right _ m)] at e;cases e
 have stk:=I.stack
 have kb:∀b o,X.base.get? b=some o->(W.hideAll s.heap (frs X.stack++FW s.heap H)).get? b=some o:=fun b o e=>toB b o (I.bs b o e).1 (I.bs b o e).2 fun z=>by have:=(stk.mem z).1;rw[e] at this;cases this
 have cellB:∀x c v,X.env.cells.lookup x=some c->s.heap.IsCell c v->(W.hideAll s.heap (frs X.stack++FW s.heap H)).IsCell c v:=fun x c v hc ⟨o,ho,hd⟩=>by
  refine⟨o,toB c o ho (I.freeC x c hc) fun z=>?_,hd⟩;rcases List.mem_cons.mp (I.stkSub c z) with z | z
  ·exact I.cne x c hc z
  ·refine FN (I.ok.funs.mem z) fun _ o1 e1 _=>?_;exact absurd (Nat.lt_of_lt_of_le (Heap.lt_size e1) (I.ok.cab x c (hfn x) hc)) (Nat.lt_irrefl _)
 have md:=I.mod;have md':Mod X.K X.mg (W.hideAll s.heap (frs X.stack++FW s.heap H)):=⟨md.kin.keeps kb,md.glob.keeps kb,let⟨mb,h1,h2⟩:=md.blt;⟨mb,h1.keeps kb,h2⟩,md.nolimit.keeps kb⟩;refine⟨W.hideAll s.heap (frs X.stack++FW s.heap H),⟨md'.kin,md'.glob,hB.keeps kb⟩,⟨I.ok.inj,fun x c hc=>?_,fun i x v c hN hσ hk hc=>?_⟩,⟨I.ok.frames,md',ofB,Nat.le_of_eq (W.hideAll_size _ _),W.funFrames_hide stk hin,I.stkFree,I.hok,I.bare⟩⟩
 ·obtain⟨v,z⟩:=I.cell x c hc;exact⟨v,cellB x c v hc z⟩
 ·refine aO I.loc fun m hn hl=>?_;refine aO (hl i x v hN hσ (.inr (.inl hk))) fun u r l=>?_;rcases l with⟨k,_⟩ | ⟨_,c',e,z⟩
  ·have k':X.env.scope.names.lookup x=some .local:=k;rw[hk] at k';cases k'
  ·rw[hc] at e;cases e;exact⟨u,r,cellB x c _ hc z⟩
end
theorem uE{X:Cx}{σ σ':St}{base':Heap}{sc:Scope}{N':List Str}(cap:Ba X σ base')(hfr:iw sc X.env.cells)(hlen:σ'.length=N'.length)(hval:∀(i:Nat)(x:Str)(v:V),N'[i]? =some x->σ'[i]? =some (some v)->(x,NameKind.free)∈sc.names/\X.env.scope.names.lookup x=some .cell/\∃j:Nat,X.N[j]? =some x/\σ[j]? =some (some v)):qY base' N' (iW X.env.cells sc.names []) σ':=by refine wj cap fun inj all val=>?_;have get:∀x c,(iW X.env.cells sc.names []).lookup x=some c->X.env.cells.lookup x=some c:=fun x c h=>vz _ _ hfr (fun _ _ z=>(by cases z)) h;refine⟨fun x y c h1 h2=>inj x y c (get x c h1) (get y c h2),fun x c h=>all x c (get x c h),fun i x v h1 h2=>?_,hlen⟩;refine wj (hval i x v h1 h2) fun m k p2_=>?_;obtain⟨j,e1,e2⟩:=p2_;obtain⟨c,hc⟩:=mj (cells:=X.env.cells) sc.names [] (.inr m);refine aO (val j x v c e1 e2 k (get x c hc)) fun u r z=>?_;exact⟨c,u,hc,r,z⟩
theorem rQ{cells:List (Str×Addr)}{sc:Scope}:∀x,sc.names.lookup x=some .free->∃c,(iW cells sc.names []).lookup x=some c:=fun x h=>mj sc.names [] (.inr (PySem.mem_of_lookup h))
theorem iw.of {sc LC:Scope} {qual:Str} {L f:Addr} {cd:Value} (h:∀y∈sc.names,y.2=NameKind.free->LC.names.lookup y.1=some .cell):iw sc (envOfC qual LC L f cd).cells:=fun x hx=>uI (n:=L+1) (h (x,.free) hx Z)
structure wz(P:Program)(w:World)(K:W.Frag)(mg:Str->Option Value)(base:Heap)(k:Nat)(f:Addr)(sp:V->Hp->VK->Prop):Prop where
 run:∀(A:Around)(outer:List Env)(s:Shared)(H:Hp)(u:Value)(v:V)(Q:VK),dD k A->pC P w K mg base A outer s H->RelV v u->sp v H Q->codeAny (model P w) A (.call (.ref f) ⟨[u],[]⟩) (CR (kj P w) outer P w H s Q E0) s
section
variable{P:Program}{w:World}{K:W.Frag}{mg:Str->Option Value}{base:Heap}
theorem yI{L:Dk}{x:Str}{N:List Str}{k:Nat}{f:Addr}{σ0:St}{sp:V->Hp->VK->Prop}(S:Ea N L.sc)(hx:L.sc.names.lookup x=some .local)(hhas:∀x,L.sc.names.lookup x=some .free->∃c,L.cl.lookup x=some c)(hce:qY base N L.cl σ0)(hH:∀v H Q,sp v H Q->H f=some (mD f L)/\H L.c=some (jU L.c L.qual))(hbind:∀(doc pm ctv u:Value),bindArgs (L.fn doc pm ctv) ⟨[u],[]⟩=pure [(x,u)])(hbody:∀(A:Around)(outer:List Env)(s:Shared)(H:Hp)(v:V)(Q:VK),dD k (A.deeper (W.envX L.qual L.sc s.heap.objs.size f (.ref L.c) L.cl))->sp v H Q->
   ∃t,PE (Qz P w K mg base (x::N) L.qual L.sc f (.ref L.c) L.cl A outer s H E0) L.body t/\t (some v::σ0) H Q):wz P w K mg base (k+1) f sp:=by
 refine⟨fun A outer s H u v Q hr e0 ru hsp=>?_⟩;obtain⟨hf,hc⟩:=hH _ _ _ hsp;have lim:s.heap.NoLimit:=e0.mod.nolimit.keeps fun b o e=>(e0.bs b o e).1;refine wj ((show dO P w H s.heap f (mD f L) from e0.hok f _ hf)) fun p0_ _ _=>?_;obtain⟨doc,pm,ctv,ef⟩:=p0_;refine wj ((show dO P w H s.heap L.c (jU L.c L.qual) from e0.hok L.c _ hc)) fun hrec _ _=>?_;refine W.kla_callFunE hr.depth ef Z S.co S.gen Z hrec ?_;rw[hbind];refine wpAny_pure ?_;refine wpAny_newFunctionEnv S.nocell (fun y hy=>by rw[List.mem_singleton.mp hy];exact hx) (fun h1 hns hsb=>⟨lim.fresh _ hsb,?_⟩) S.kind;show codeAny _ _ (.expr L.body (W.envX L.qual L.sc s.heap.objs.size f (.ref L.c) L.cl)) _ _;have hk:∀b o,s.heap.get? b=some o->h1.get? b=some o:=fun b o e=>hsb.extBut b o (Nat.ne_of_lt (Heap.lt_size e)) (Heap.get?_push_of_some _ e);refine aO (hbody A outer s H v Q (hr.deeper _) hsp) fun t ht hq=>?_;have noA:∀b:Addr,b∉(Qz P w K mg base (x::N) L.qual L.sc f (.ref L.c) L.cl A outer s H E0).ex:=fun b z=>absurd (show b∈([]:List Addr) from z) (by simp)
 have I:Inv (Qz P w K mg base (x::N) L.qual L.sc f (.ref L.c) L.cl A outer s H E0) [] (some v::σ0) H {s with heap:=h1,toks:=s.toks+[(x,u)].length}:=by
  refine⟨⟨e0.mod,S.kind,Z,Z,Nat.le_refl _,hce.inj,fun y hy=>?_,fun y c z _=>absurd (show false=true from z) (by decide),fun _=>hr.hd,Around.frames_deeper e0.frames,.inr ⟨Z,Z⟩,fun b z=>absurd z (noA b),e0.bs,e0.bsz,fun b _ _=>noA b,fun b z=>absurd z (noA b),e0.funs,e0.frf⟩,
   Z,e0.bare,Un.kept hk,⟨_,hns,fun i y v' h1 h2 h3=>?_⟩,fun y c h=>?_,e0.hok.fresh (Nat.le_refl _),fun y c h=>?_,fun p hp=>absurd (show p∈([]:List (Addr×Obj)) from hp) (by simp),e0.hok.kept hk,?_⟩
  ·have hy:L.sc.names.lookup y=some .cell\/L.sc.names.lookup y=some .free:=hy;rcases hy with hy | hy
   ·exact absurd Z (S.nocell _ (PySem.mem_of_lookup hy))
   ·exact hhas y hy
  ·cases i with
   | zero=>
    have e1:some x=some y:=h1;have e2:some (some v)=some (some v'):=h2;cases e1;cases e2;refine⟨u,ru,.inl ⟨hx,?_⟩⟩;show[(x,u)].lookup x=some u;simp[List.lookup]
   | succ i=>
    refine dB (hce.val i y v' h1 h2) fun c u' e1 r z=>?_;exact⟨u',r,.inr ⟨.inr (S.free y (List.mem_of_getElem? (show N[i]? =some y from h1))),c,e1,(z.keeps fun b o e=>(e0.bs b o e).1).keeps hk⟩⟩
  ·obtain⟨v,z⟩:=hce.all y c h;exact⟨v,(z.keeps fun b o e=>(e0.bs b o e).1).keeps hk⟩
  ·refine gP (hce.all y c h) fun v o z _=>?_;exact(e0.bs c o z).2
  ·show σ0.length+1=N.length+1;rw[hce.len]
 refine W.kla_codeExpr (wpAny_mono (ht [] _ (some v::σ0) H Q I hq) (fun u s' hs=>?_) fun e s' hs=>hs);refine dB hs fun v H' J rv q=>?_;exact⟨v,H',J.os,J.bare,J.base,J.hok,rv,q⟩
end
noncomputable def CallKw(X:Cx)(id:String)(r:St->List V->V->Hp->VK->Prop):Prop:=
 ∀(pins:List (Addr×Obj))(s:Shared)(σ:St)(H:Hp)(xs:List V)(us:List Value)(g:V)(u:Value)(Q:VK),Inv X pins σ H s->Vals xs us->RelV g u->r σ xs g H Q->
  wpAny (model X.prog X.w) X.A (call (.builtin id) us [(Str.ofString "key",u)]) (EP X pins σ Q) X.xe s
noncomputable def J7(r:St->List V->V->Hp->VK->Prop)(t:TA)(tg:TE):TE:=fun σ H Q=>t σ H fun vs H1=>tg σ H1 fun g H2=>r σ vs g H2 Q
section
variable{X:Cx}
theorem rR{id:String}{r:St->List V->V->Hp->VK->Prop}{x:Str}{e ge:Expr}{es:List Expr}{t:TA}{tg:TE}{p pos kp:Pos}(hc:CallKw X id r)(hg:Gl X x)(hm:X.mg x=none)(hv:bootBuiltins x=some (.builtin id))(ha:PA X (e::es) t)(hl:PE X ge tg)(hn:x≠"__name__":=by decide)(hdb:(x==("__debug__":Str))=false:=by decide)(he:backTo pos (starEach (e::es) X.env)=(false,eval e X.env)::backTo pos (starEach es X.env):=by rfl)(hpl:(backTo pos (starEach (e::es) X.env)).any (·.1)=false:=by rfl):
  PE X (.Call (.Name x p) (e::es) [⟨some (Str.ofString "key"),ge,kp⟩] pos) (J7 r t tg):=by
 intro pins s σ H Q I h;refine wpAny_Call_Name_kw (nW I hg hm hv ?_ hn hdb);refine callWith_kw (dF (ha pos pins s σ H _ I h) fun us s1 ⟨vs,H1,I1,r1,q1⟩=>?_) he hpl;refine kws_cons (dF (hl pins s1 σ H1 _ I1 q1) fun u s2 ⟨g,H2,I2,r2,q2⟩=>kws_nil ?_);exact hc pins s2 σ H2 vs us g u Q I2 r1 r2 q2
noncomputable def tX(ka kb:Int->Int)(ns:List Int)(i j:Nat):Bool:=HT.lexLt [ka (ns.getD i 0),kb (ns.getD i 0)] [ka (ns.getD j 0),kb (ns.getD j 0)]
noncomputable def Bs(ka kb:Int->Int)(ns:List Int):Int:=ns.getD (argBest (tX ka kb ns) (ns.length - 1)) 0
noncomputable abbrev RK(X:Cx)(pins:List (Addr×Obj))(σ:St)(Q:VK):Result->Shared->Prop:=fun r s'=>match r with
 | .ok (.ret v)=>EP X pins σ Q v s'
 | .ok _=>False
 | .error e=>X.xe e s'
theorem DG{its:List Value}{ns:List Int}(r:Vals (ns.map V.int) its){i:Nat}{v:Value}(h:its[i]? =some v):∃t,v=Value.int (ns.getD i 0) t:=by
 have hlen:=r.length;rw[List.length_map] at hlen;have hi:i<ns.length:=by have:=(List.getElem?_eq_some_iff.mp h).1;omega
 refine aO (r.get (show(ns.map V.int)[i]? =some (.int ns[i]) by rw[List.getElem?_map,List.getElem?_eq_getElem hi];rfl)) fun w hw rw'=>?_;rw[h] at hw;cases hw;obtain⟨t,rfl⟩:=rw';exact⟨t,by simp[List.getD,hi]⟩
theorem Ai{pins:List (Addr×Obj)}{σ:St}{H:Hp}{s:Shared}{k:Nat}{f:Addr}{sp:V->Hp->VK->Prop}{v:V}{u:Value}{Q:VK}(hr:dD (k+1) X.A)(hB:BMain X.mg X.base)(hfn:∀x,X.fn x=true)(G:∀base',lH X.K X.mg base'->Ba X σ base'->wz X.prog X.w X.K X.mg base' k f sp)(I:Inv X pins σ H s)(ru:RelV v u)(h:sp v H Q){E:Value->Shared->Prop}:
  wpAny (model X.prog X.w) X.A.in1 (call (.ref f) [u]) (EP X pins σ Q) E s:=by
 refine bL (rebase I hB hfn) fun base' ok cap e0=>?_;refine wpAny_call (codeAny_mono ((G base' ok cap).run X.A.in1 X.stack s H u v Q hr.in1 e0.in1 ru h) fun r s' hq=>?_);cases r with
 | error e=>
  refine dJ hq fun _ _ _ _ _ _ _ _ _ _ _ z=>?_;exact False.elim z
 | ok fl=>
  cases fl with
  | ret u=>exact I.after hq
  | next=>exact False.elim hq
  | brk=>exact False.elim hq
  | cont=>exact False.elim hq
structure O8(X:Cx)(pins:List (Addr×Obj))(σ:St)(J:Hp->Prop)(ka kb:Int->Int)(ns:List Int)(l I S:Addr)(j:Nat)(H:Hp)(s:Shared):Prop where
 inv:Inv X pins σ H s
 ji:J H
 fi:gF X pins H I
 fs:gF X pins H S
 it:s.heap.IsListIter I l (j+1)
 best:∃tb kt c,s.heap.get? S=some {cls:= .type "list",data:= .seq #[.int (ns.getD (argBest (tX ka kb ns) j) 0) tb,.ref kt] c}/\
  H kt=some (.tup [.int (ka (ns.getD (argBest (tX ka kb ns) j) 0)),.int (kb (ns.getD (argBest (tX ka kb ns) j) 0))])
theorem rn{pins:List (Addr×Obj)}{σ:St}{H:Hp}{s:Shared}{l:Addr}{xs:List V}(I:Inv X pins σ H s)(h:H l=some (.lst xs)):∃its,Vals xs its/\s.heap.IsList l its.toArray/\s.heap.get? l≠none:=by refine dB (I.lst h) fun its n r e _=>?_;exact⟨its,r,⟨_,e,Z,n,Z⟩,by rw[e];simp⟩
theorem Du{pins:List (Addr×Obj)}{σ:St}{H:Hp}{s:Shared}{t:Addr}{a b:Int}(I:Inv X pins σ H s)(h:H t=some (.tup [.int a,.int b])):∃items,IsTup s.heap t items/\IntsAre items.toList [a,b]:=by
 refine FN (I.hok t _ h) fun _ its r z=>?_;refine⟨_,z,?_⟩;cases r with
 | cons r1 r2=>
  cases r2 with
  | cons r2 r3=>
   cases r3;obtain⟨t1,rfl⟩:=r1;obtain⟨t2,rfl⟩:=r2;exact .cons _ _ (.cons _ _ .nil)
theorem jm{pins:List (Addr×Obj)}{σ:St}{H:Hp}{s:Shared}{b:Addr}{h':Heap}{t':Nat}(I:Inv X pins σ H s)(f:gF X pins H b)(k:∀c o,c≠b->s.heap.get? c=some o->h'.get? c=some o):Inv X pins σ H {s with heap:=h',toks:=t'}:=
 I.turned k f.1 f.2.1 f.2.2.2.1 f.2.2.2.2.1 f.2.2.2.2.2
theorem Hq{pins:List (Addr×Obj)}{σ:St}{J:Hp->Prop}{ka kb:Int->Int}{ns:List Int}{l bI bS f:Addr}{k:Nat}{sp:V->Hp->VK->Prop}{Q:VK}(hr:dD (k+1) X.A)(hc:X.calm=true)(hB:BMain X.mg X.base)(hfn:∀x,X.fn x=true)(G:∀base',lH X.K X.mg base'->Ba X σ base'->wz X.prog X.w X.K X.mg base' k f sp)(hl:∀H,J H->H l=some (.lst (ns.map V.int)))(hlI:l≠bI)(hSI:bS≠bI)(turn:∀n∈ns,∀(H:Hp)(Q':VK),J H->(∀t H',J H'->(∀a xs,H a=some (.tup xs)->H' a=some (.tup xs))->H' t=some (.tup [.int (ka n),.int (kb n)])->Q' (.ref t) H')->sp (.int n) H Q')(hQ:∀H,J H->Q (.int (Bs ka kb ns)) H):
  ∀(r j:Nat)(H:Hp)(s:Shared),ns.length - (j+1)=r->j+1<=ns.length->O8 X pins σ J ka kb ns l bI bS j H s->
   codeAny (model X.prog X.w) X.A (.builtin "min.loop" ⟨[.ref bI,.ref f,.ref bS],[]⟩) (RK X pins σ Q) s:=by
 have hnm:(toString "min"++toString ".loop":String)="min.loop":=by decide
 intro r;induction r with
 | zero=>
  intro j H s hr0 hj ⟨I,hJ,fi,fs,it,tb,kt,c,hS,hk⟩;refine bL (rn I (hl H hJ)) fun its rv isl _=>?_;have hlen:=rv.length;rw[List.length_map] at hlen;have W:=Walks.list (prog:=X.prog) (w:=X.w) (A:=X.A.in1) (I.ok.hd hc) bI l hlI its.toArray;have hsz:its.toArray.size=j+1:=by simp;omega
  refine codeAny_builtin PySem.F.entry_min_loop ?_;rw[Around.under_plainId PySem.F.plain_min_loop _];show wpAny _ X.A.in1 (seqItems? (.ref bS)>>=_) _ _ _;refine wpAny_bind (wpAny_seqItems hS Z ?_);show wpAny _ X.A.in1 (tryCatch (pyNext (.ref bI)) _>>=_) _ _ _;refine wpAny_bind (wpAny_tryCatch (W.done _ _ _ ⟨by rw[hsz];exact it,isl⟩ fun h' tk' hk'=>?_));have I1:=jm (t':=tk') I fi fun b o nb e=>hk' b o (by simpa using nb) e;have hS':=hk' bS _ (by simpa using hSI) hS;show wpAny _ X.A.in1 (updateSeq bS (fun _=>#[])>>=_) _ _ _;refine wpAny_bind ?_;refine wpAny_updateSeq hS' Z (wpAny_bind (wpAny_letGo (wpAny_pure ?_)));have I2:=jm (t':=tk') I1 fs (h':=h'.update bS (Obj.mapSeq fun _=>(#[]:Array Value))) fun b o nb e=>(Heap.get?_update_other _ _ (Ne.symm nb)).trans e;refine⟨.int _,H,I2,⟨tb,Z⟩,?_⟩;have q:=hQ H hJ;unfold Bs at q;rw[show ns.length - 1=j by omega] at q;exact q
 | succ r ih=>
  intro j H s hr0 hj ⟨I,hJ,fi,fs,it,tb,kt,c,hS,hk⟩;refine bL (rn I (hl H hJ)) fun its rv isl _=>?_;have hlen:=rv.length;rw[List.length_map] at hlen;have W:=Walks.list (prog:=X.prog) (w:=X.w) (A:=X.A.in1) (I.ok.hd hc) bI l hlI its.toArray;have hlt:j+1<its.toArray.size:=by simp;omega
  refine codeAny_builtin PySem.F.entry_min_loop ?_;rw[Around.under_plainId PySem.F.plain_min_loop _];show wpAny _ X.A.in1 (seqItems? (.ref bS)>>=_) _ _ _;refine wpAny_bind (wpAny_seqItems hS Z ?_);show wpAny _ X.A.in1 (tryCatch (pyNext (.ref bI)) _>>=_) _ _ _;refine wpAny_bind (wpAny_tryCatch (W.item (j+1) _ _ _ hlt ⟨it,isl⟩ fun v h' tk' hP hst' hk'=>?_));obtain⟨tv,rfl⟩:=DG rv (show its[j+1]? =some v by simpa using hP);refine bL (id hst'.1) fun oI hoI hoc hod=>?_;have I1:=jm (t':=tk') I fi fun b o nb e=>hk' b o (by simpa using nb) e;have hS':=hk' bS _ (by simpa using hSI) hS
  have hmem:ns.getD (j+1) 0∈ns:=by rw[List.getD_eq_getElem?_getD,List.getElem?_eq_getElem (show j+1<ns.length by omega)];exact List.getElem_mem _
  have I2:Inv X (pins++[(bI,oI),(bS,{cls:= .type "list",data:= .seq #[.int (ns.getD (argBest (tX ka kb ns) j) 0) tb,.ref kt] c})]) σ H {s with heap:=h',toks:=tk'}:=I1.pins_of fun p hp=>by
   rcases List.mem_append.mp hp with hp | hp
   ·exact I1.pin p (List.mem_append_right _ hp)
   ·rcases List.mem_cons.mp hp with rfl | hp
    ·exact⟨hoI,fi.1,fi.2.1,fi.2.2.1,fun v z=>by rw[show oI.data=_ from hod] at z;cases z⟩
    ·rw[List.mem_singleton.mp hp];exact⟨hS',fs.1,fs.2.1,fs.2.2.1,fun v z=>by cases z⟩
  show wpAny _ X.A.in1 (tryCatch (holding [_] (call (.ref f) [_])) _>>=_) _ _ _;refine wpAny_bind (wpAny_tryCatch (wpAny_holding (wpAny_mono (Ai (v:= .int (ns.getD (j+1) 0)) hr hB hfn G I2 ⟨tv,Z⟩ (turn _ hmem H (fun v H'=>J H'/\H' kt=some (.tup [.int (ka (ns.getD (argBest (tX ka kb ns) j) 0)),.int (kb (ns.getD (argBest (tX ka kb ns) j) 0))])/\∃t,v= .ref t/\H' t=some (.tup [.int (ka (ns.getD (j+1) 0)),.int (kb (ns.getD (j+1) 0))])) hJ fun t H' j' tp ht=>⟨j',tp _ _ hk,t,Z,ht⟩)) (fun x s2 hx=>?_) fun _ _ z=>z)));refine yS hx fun _ H2 I3 rx j2 hk2 p6_=>?_;obtain⟨t2,rfl,ht2⟩:=p6_;obtain rfl:x=Value.ref t2:=rx;have pI:=I3.pin (bI,oI) (List.mem_append_right _ (List.mem_append_right _ (.head _)));have pS:=I3.pin (bS,{cls:= .type "list",data:= .seq #[.int (ns.getD (argBest (tX ka kb ns) j) 0) tb,.ref kt] c}) (List.mem_append_right _ (List.mem_append_right _ (.tail _ (.head _))));have I4:Inv X pins σ H2 s2:=I3.unpinned;have fi2:gF X pins H2 bI:=⟨pI.2.1,fi.2⟩;have fs2:gF X pins H2 bS:=⟨pS.2.1,fs.2⟩;refine aO (Du I4 ht2) fun i1 u1 n1=>?_;refine aO (Du I4 hk2) fun i2 u2 n2=>?_;show wpAny _ X.A.in1 (tryCatch (holding [_,.ref t2] (richCompare .Lt (.ref t2) (.ref kt)>>=_)) _>>=_) _ _ _;refine wpAny_bind (wpAny_tryCatch (wpAny_holding (wpAny_bind ?_)));show wpAny _ X.A.in1 (compareOp .Lt (.ref t2) (.ref kt)) _ _ _;refine HT.lt_tupInts u1 u2 n1 n2 (by have:=hr.in1.un;omega) ?_;refine wpAny_bind (wpAny_holding (wpAny_truthy_bool ?_));refine wpAny_bind (wpAny_letGo (wpAny_pure ?_));have step:argBest (tX ka kb ns) (j+1)=if tX ka kb ns (j+1) (argBest (tX ka kb ns) j) then j+1 else argBest (tX ka kb ns) j:=Z
  have hb:HT.lexLt [ka (ns.getD (j+1) 0),kb (ns.getD (j+1) 0)] [ka (ns.getD (argBest (tX ka kb ns) j) 0),kb (ns.getD (argBest (tX ka kb ns) j) 0)]=tX ka kb ns (j+1) (argBest (tX ka kb ns) j):=Z;rw[hb];cases hb':tX ka kb ns (j+1) (argBest (tX ka kb ns) j) with
  | true=>
   rw[hb',if_pos rfl] at step;simp only[if_true];refine wpAny_bind ?_;refine wpAny_updateSeq pS.1 Z (wpAny_bind (wpAny_letGo ?_));rw[hnm];have I5:=jm (t':=s2.toks) I4 fs2 (h':=s2.heap.update bS (Obj.mapSeq fun _=>#[Value.int (ns.getD (j+1) 0) tv,.ref t2])) fun b o nb e=>(Heap.get?_update_other _ _ (Ne.symm nb)).trans e;obtain⟨c2,hc2⟩:∃c2,(s2.heap.update bS (Obj.mapSeq fun _=>#[Value.int (ns.getD (j+1) 0) tv,.ref t2])).get? bS=some {cls:= .type "list",data:= .seq #[Value.int (ns.getD (j+1) 0) tv,.ref t2] c2}:=⟨_,get?_update_seq pS.1 _⟩;refine wpAny_pure ⟨plainId_quiet PySem.F.plain_min_loop _,ih (j+1) H2 _ (by omega) (by omega) ⟨I5,j2,fi2,fs2,⟨oI,(Heap.get?_update_other _ _ hSI).trans pI.1,hoc,hod⟩,tv,t2,c2,?_,?_⟩⟩
   ·rw[step];exact hc2
   ·rw[step];exact ht2
  | false=>
   rw[hb',if_neg (by simp)] at step;simp only[Bool.false_eq_true,if_false];refine wpAny_bind (wpAny_letGo ?_);rw[hnm];refine wpAny_pure ⟨plainId_quiet PySem.F.plain_min_loop _,ih (j+1) H2 _ (by omega) (by omega) ⟨I4,j2,fi2,fs2,⟨oI,pI.1,hoc,hod⟩,tb,kt,c,?_,?_⟩⟩
   ·rw[step];exact pS.1
   ·rw[step];exact hk2
noncomputable def PL(X:Cx)(k:Nat):St->List V->V->Hp->VK->Prop:=fun σ xs g H Q=>∃(l f:Addr)(ns:List Int)(ka kb:Int->Int)(J:Hp->Prop)(sp:V->Hp->VK->Prop),xs=[.ref l]/\g= .ref f/\ns≠[]/\J H/\(∀H,J H->H l=some (.lst (ns.map V.int)))/\
 (∀base',lH X.K X.mg base'->Ba X σ base'->wz X.prog X.w X.K X.mg base' k f sp)/\
 (∀n∈ns,∀(H:Hp)(Q':VK),J H->(∀t H',J H'->(∀a xs,H a=some (.tup xs)->H' a=some (.tup xs))->H' t=some (.tup [.int (ka n),.int (kb n)])->Q' (.ref t) H')->sp (.int n) H Q')/\
 ∀H,J H->Q (.int (Bs ka kb ns)) H
theorem xK{k:Nat}(hr:dD (k+1) X.A)(hc:X.calm=true)(hB:BMain X.mg X.base)(hfn:∀x,X.fn x=true):CallKw X "min" (PL X k):=by
 intro pins s σ H xs us g u Q I rv rg h;refine zb h fun l f p2_=>?_;obtain⟨ns,ka,kb,J,sp,rfl,rfl,hne,hJ,hl,G,turn,hQ⟩:=p2_;refine aO (vals1 rv) fun _ e1_ ru=>?_;subst e1_;cases ru;obtain rfl:u=Value.ref f:=rg;have hnm:(toString "min"++toString ".loop":String)="min.loop":=by decide
 have hpos:0<ns.length:=List.length_pos_iff.mpr hne;refine bL (rn I (hl H hJ)) fun its rvl isl _=>?_;have hlen:=rvl.length;rw[List.length_map] at hlen;have hll:l<s.heap.objs.size:=I.hok.lt (hl H hJ);refine kmk_tree PySem.F.kind_min PySem.F.plain_min PySem.F.entry_min (kmk_min_key _ _) ?_;show wpAny _ X.A.in1 (Builtin.Builtins.bindParams "min" ["key","default"] 0 ⟨[],[(Str.ofString "key",.ref f)]⟩>>=_) _ _ s;refine wpAny_bind (wpAny_of_eq (show Builtin.Builtins.bindParams "min" ["key","default"] 0 ⟨[],[(Str.ofString "key",.ref f)]⟩=pure [some (.ref f),none] from Z) ?_);refine wpAny_bind (wpAny_pure (wpAny_bind (wpAny_pyIter_list isl (wpAny_bind (wpAny_newList ?_ (Nat.zero_le _))))));rw[hnm];refine wpAny_pure ⟨plainId_quiet PySem.F.plain_min_loop _,?_⟩;have eS:(s.heap.push {cls:= .type "list_iterator",data:= .fields #[.ref l,.int 0 0]}).objs.size=s.heap.objs.size+1:=size_push' ..;generalize hbS:(s.heap.push {cls:= .type "list_iterator",data:= .fields #[.ref l,.int 0 0]}).objs.size=bS at eS⊢;have I0:=I.kept (t':=s.toks) (h':=(s.heap.push {cls:= .type "list_iterator",data:= .fields #[.ref l,.int 0 0]}).push (seqObj "list" #[] 0)) fun b x e=>Heap.get?_push_of_some _ (Heap.get?_push_of_some _ e)
 have gI:((s.heap.push {cls:= .type "list_iterator",data:= .fields #[.ref l,.int 0 0]}).push (seqObj "list" #[] 0)).get? s.heap.objs.size=some {cls:= .type "list_iterator",data:= .fields #[.ref l,.int 0 0]}:=
  Heap.get?_push_of_some _ (Heap.get?_push_size _ Z)
 have gS:((s.heap.push {cls:= .type "list_iterator",data:= .fields #[.ref l,.int 0 0]}).push (seqObj "list" #[] 0)).get? bS=some (seqObj "list" #[] 0):=by rw[<-hbS];exact Heap.get?_push_size _ Z
 have hSI:bS≠s.heap.objs.size:=by rw[eS];exact Nat.succ_ne_self _
 have hlI:l≠s.heap.objs.size:=Nat.ne_of_lt hll;have fi:gF X pins H s.heap.objs.size:=I.fpOk (Nat.le_refl _) I.fresh;have fs:gF X pins H bS:=I.fpOk (by rw[eS];exact Nat.le_succ _) (I.hok.fresh (by rw[eS];exact Nat.le_succ _));refine bL (rn I0 (hl H hJ)) fun its0 rv0 isl0 _=>?_;have hlen0:=rv0.length;rw[List.length_map] at hlen0;have W:=Walks.list (prog:=X.prog) (w:=X.w) (A:=X.A.in1) (I.ok.hd hc) s.heap.objs.size l hlI its0.toArray;refine codeAny_builtin PySem.F.entry_min_loop ?_;rw[Around.under_plainId PySem.F.plain_min_loop _];show wpAny _ X.A.in1 (seqItems? (.ref bS)>>=_) _ _ _;refine wpAny_bind (wpAny_seqItems gS Z ?_);show wpAny _ X.A.in1 (tryCatch (pyNext (.ref s.heap.objs.size)) _>>=_) _ _ _;refine wpAny_bind (wpAny_tryCatch (W.item 0 _ _ _ (by simp;omega) ⟨⟨_,gI,Z,Z⟩,isl0⟩ fun v h' tk' hP hst' hk'=>?_));obtain⟨tv,rfl⟩:=DG rv0 (show its0[0]? =some v by simpa using hP);refine bL (id hst'.1) fun oI hoI hoc hod=>?_;have I1:=jm (t':=tk') I0 fi fun b o nb e=>hk' b o (by simpa using nb) e;have hS':=hk' bS _ (by simpa using hSI) gS
 have hmem:ns.getD 0 0∈ns:=by rw[List.getD_eq_getElem?_getD,List.getElem?_eq_getElem hpos];exact List.getElem_mem _
 have I2:Inv X (pins++[(s.heap.objs.size,oI),(bS,seqObj "list" #[] 0)]) σ H {s with heap:=h',toks:=tk'}:=I1.pins_of fun p hp=>by
  rcases List.mem_append.mp hp with hp | hp
  ·exact I1.pin p (List.mem_append_right _ hp)
  ·rcases List.mem_cons.mp hp with rfl | hp
   ·exact⟨hoI,fi.1,fi.2.1,fi.2.2.1,fun v z=>by rw[show oI.data=_ from hod] at z;cases z⟩
   ·rw[List.mem_singleton.mp hp];exact⟨hS',fs.1,fs.2.1,fs.2.2.1,fun v z=>by cases z⟩
 show wpAny _ X.A.in1 (tryCatch (holding [_] (call (.ref f) [_])) _>>=_) _ _ _;refine wpAny_bind (wpAny_tryCatch (wpAny_holding (wpAny_mono (Ai (v:= .int (ns.getD 0 0)) hr hB hfn G I2 ⟨tv,Z⟩ (turn _ hmem H (fun v H'=>J H'/\∃t,v= .ref t/\H' t=some (.tup [.int (ka (ns.getD 0 0)),.int (kb (ns.getD 0 0))])) hJ fun t H' j' tp ht=>⟨j',t,Z,ht⟩)) (fun x s2 hx=>?_) fun _ _ z=>z)));refine jG hx fun _ H2 I3 rx j2 p5_=>?_;obtain⟨t2,rfl,ht2⟩:=p5_;obtain rfl:x=Value.ref t2:=rx;have pI:=I3.pin (s.heap.objs.size,oI) (List.mem_append_right _ (List.mem_append_right _ (.head _)));have pS:=I3.pin (bS,seqObj "list" #[] 0) (List.mem_append_right _ (List.mem_append_right _ (.tail _ (.head _))));have I4:Inv X pins σ H2 s2:=I3.unpinned;have fi2:gF X pins H2 s.heap.objs.size:=⟨pI.2.1,fi.2⟩;have fs2:gF X pins H2 bS:=⟨pS.2.1,fs.2⟩;show wpAny _ X.A.in1 (updateSeq bS (fun _=>#[_,.ref t2])>>=_) _ _ _;refine wpAny_bind (wpAny_updateSeq pS.1 Z ?_);rw[hnm];have I5:=jm (t':=s2.toks) I4 fs2 (h':=s2.heap.update bS (Obj.mapSeq fun _=>#[Value.int (ns.getD 0 0) tv,.ref t2])) fun b o nb e=>(Heap.get?_update_other _ _ (Ne.symm nb)).trans e;refine wpAny_pure ⟨plainId_quiet PySem.F.plain_min_loop _,Hq hr hc hB hfn G hl hlI hSI turn hQ _ 0 H2 _ Z hpos ⟨I5,j2,fi2,fs2,⟨oI,(Heap.get?_update_other _ _ hSI).trans pI.1,hoc,hod⟩,tv,t2,_,get?_update_seq pS.1 _,ht2⟩⟩
end
noncomputable def Vn(xs:Array Keyed)(i:Nat):Int:=match xs[i]? with
 | some p=>numOf p.2
 | none=>0
theorem nY{xs ys:Array Keyed}{i j:Nat}(h:xs[i]? =ys[j]?):Vn xs i=Vn ys j:=by unfold Vn;rw[h]
theorem oW{xs:Array Keyed}{src d:Nat}(hs:src<xs.size)(hd:d<=src)(k:Nat):Vn (bubble xs src d) k=if k=src - d then Vn xs src else if src - d<k/\k<=src then Vn xs (k - 1) else Vn xs k:=by
 have e:=getElem?_bubble hs d hd k
 split
 ·rename_i h;rw[if_pos h] at e;exact nY e
 ·rename_i h;rw[if_neg h] at e
  split
  ·rename_i h;rw[if_pos h] at e;exact nY e
  ·rename_i h;rw[if_neg h] at e;exact nY e
theorem jO{xs:Array Keyed}{i j:Nat}(hj:j<=xs.size)(k:Nat):Vn (mirror xs i j ((j - i) / 2)) k=if i<=k/\k<j then Vn xs (i+j - 1 - k) else Vn xs k:=by
 have e:=getElem?_mirror_all (i:=i) hj k
 split
 ·rename_i h;rw[if_pos h] at e;exact nY e
 ·rename_i h;rw[if_neg h] at e;exact nY e
noncomputable def SS(xs:Array Keyed)(m:Nat):Prop:=∀i j,i<j->j<m->K xs i<K xs j\/(K xs i=K xs j/\Vn xs i<Vn xs j)
noncomputable def DD(xs:Array Keyed)(m:Nat):Prop:=∀i j,i<j->j<m->K xs j<K xs i\/(K xs i=K xs j/\Vn xs j<Vn xs i)
noncomputable def Up(xs:Array Keyed)(k:Nat):Prop:=∀i j,i<j->k<=j->j<xs.size->Vn xs i<Vn xs j
theorem Up.mono {xs:Array Keyed} {k k':Nat} (u:Up xs k) (h:k<=k'):Up xs k':=fun i j h1 h2 h3=>u i j h1 (by omega) h3
theorem Up.mirror {xs:Array Keyed} {i j k:Nat} (u:Up xs k) (hj:j<=xs.size) (hk:j<=k):Up (mirror xs i j ((j - i) / 2)) k:=fun a b h1 h2 h3=>by
 have hz:(PyProof.Rows.mirror xs i j ((j - i) / 2)).size=xs.size:=(mirror_perm _ _ _ _).size_eq;rw[hz] at h3;rw[jO hj,jO hj,if_neg (show ¬(i<=b/\b<j) by omega)]
 split
 ·exact u _ b (by omega) h2 h3
 ·exact u a b h1 h2 h3
section
variable{prog:Program}{w:World}{A:Around}{E:Value->Shared->Prop}{s:Shared}{a₀:Array Keyed}
theorem Hu{st:SortSt}{a nrem:Nat}{Q:AscSt->SortSt->Prop}(h0:IntKeys a₀)(hn:nrem<=a₀.size)(ha:1<=a)(han:a<=nrem)(hB:SBase a₀ st)(hs:SS (arrOf st) a)(hu:Up (arrOf st) a)(h:∀n,a<=n->n<=nrem->SS (arrOf st) n->(n=nrem\/K (arrOf st) n<K (arrOf st) (n - 1))->Q (none,n) st):wpS (model prog w) A E s (ascLoop a nrem) Q st:=by
 unfold ascLoop;have hz:=hB.size;refine wpS_forRange (I:=fun x c st'=>st'=st/\c=(none,x)/\SS (arrOf st) x) ?step ?fin ⟨Z,Z,hs⟩
 case fin=>
  rintro c st' ⟨rfl,rfl,hs'⟩;rw[show max a nrem=nrem by omega] at hs'⊢;exact h nrem han (Nat.le_refl _) hs' (.inl Z)
 case step=>
  rintro x c st' hax hxn ⟨rfl,rfl,hs'⟩
  dsimp only
  refine wpS_bind (wpS_ltK hB h0 (by omega) (by omega) ?_);by_cases hless:K (arrOf st') x<K (arrOf st') (x - 1)
  ·simp only[hless,decide_true,if_true];exact wpS_pure (h x hax (by omega) hs' (.inr hless))
  ·simp only[hless,decide_false,Bool.false_eq_true,if_false];refine wpS_pure ⟨Z,Z,fun i j hij hj=>?_⟩;by_cases hjx:j<x
   ·exact hs' i j hij hjx
   ·obtain rfl:j=x:=by omega
    have u1:=hu i j hij hax (by omega);by_cases hi:i=j - 1
    ·subst hi;omega
    ·have q:=hs' i (j - 1) (by omega) (by omega);omega
theorem Es{st:SortSt}{n nrem:Nat}{Q:Option Nat->SortSt->Prop}(h0:IntKeys a₀)(hn:nrem<=a₀.size)(h1:1<=n)(hnn:n<=nrem)(hB:SBase a₀ st)(hs:DD (arrOf st) n)(hu:Up (arrOf st) n)(h:∀m st',SBase a₀ st'->1<=m->m<=nrem->SS (arrOf st') m->Up (arrOf st') m->Q (some m) st'):wpS (model prog w) A E s (tail3 n nrem) Q st:=by
 unfold tail3;have hsz:n<=(arrOf st).size:=by rw[hB.size];omega
 refine wpS_bind (wpS_reverse ?_);have hB':SBase a₀ (setArr st (mirror (arrOf st) 0 n ((n - 0) / 2))):=hB.setArr (mirror_perm _ _ _ _);have hu':Up (mirror (arrOf st) 0 n ((n - 0) / 2)) n:=hu.mirror hsz (Nat.le_refl _);refine wpS_bind (Hu h0 hn h1 hnn hB' (fun i j hij hj=>?_) hu' fun m hm1 hm2 hsm _=>wpS_pure (h m _ hB' (by omega) hm2 hsm (hu'.mono hm1)));show K (mirror (arrOf st) 0 n ((n - 0) / 2)) i<K (mirror (arrOf st) 0 n ((n - 0) / 2)) j\/(K (mirror (arrOf st) 0 n ((n - 0) / 2)) i=K (mirror (arrOf st) 0 n ((n - 0) / 2)) j/\Vn (mirror (arrOf st) 0 n ((n - 0) / 2)) i<Vn (mirror (arrOf st) 0 n ((n - 0) / 2)) j);rw[K_mirror hsz,K_mirror hsz,jO hsz,jO hsz,if_pos (by omega),if_pos (by omega),if_pos (by omega),if_pos (by omega)];have q:=hs (0+n - 1 - j) (0+n - 1 - i) (by omega) (by omega);omega
structure yz(xs:Array Keyed)(g m:Nat):Prop where
 a:DD xs g
 b:∀i j,i<g->g<=j->j<m->K xs j<K xs i
 c:∀i j,g<=i->i<j->j<m->K xs i=K xs j/\Vn xs i<Vn xs j
theorem yz.turned {xs:Array Keyed} {g m:Nat} (f:yz xs g m) (hm:m<=xs.size):DD (mirror xs g m ((m - g) / 2)) m:=fun i j hij hj=>by
 rw[K_mirror hm,K_mirror hm,jO hm,jO hm];by_cases hi:g<=i
 ·rw[if_pos (by omega),if_pos (by omega),if_pos (by omega),if_pos (by omega)];have q:=f.c (g+m - 1 - j) (g+m - 1 - i) (by omega) (by omega) (by omega);omega
 ·rw[if_neg (show ¬(g<=i/\i<m) by omega),if_neg (show ¬(g<=i/\i<m) by omega)];by_cases hgj:g<=j
  ·rw[if_pos (by omega),if_pos (by omega)];exact .inl (f.b i _ (by omega) (by omega) (by omega))
  ·rw[if_neg (by omega),if_neg (by omega)];exact f.a i j hij (by omega)
theorem yz.one {xs:Array Keyed} {g m:Nat} (f:yz xs g m) (h:m<=g+1):DD xs m:=fun i j hij hj=>by
 by_cases hj':j<g
 ·exact f.a i j hij hj'
 ·exact .inl (f.b i j (by omega) (by omega) hj)
theorem Li{st:SortSt}{n nrem:Nat}{Q:DescSt->SortSt->Prop}(h0:IntKeys a₀)(hn:nrem<=a₀.size)(h1:1<=n)(hnn:n<=nrem)(hB:SBase a₀ st)(hs:yz (arrOf st) (n - 1) n)(hu:Up (arrOf st) n)(h:∀m neq st',SBase a₀ st'->n<=m->m<=nrem->neq+1<=m->yz (arrOf st') (m - (neq+1)) m->Up (arrOf st') m->Q (none,m,neq) st'):wpS (model prog w) A E s (descLoop n nrem) Q st:=by
 unfold descLoop;refine wpS_forRange (I:=fun x c st'=>∃neq,c=(none,x,neq)/\SBase a₀ st'/\neq+1<=x/\yz (arrOf st') (x - (neq+1)) x/\Up (arrOf st') x) ?step ?fin ⟨0,Z,hB,by omega,hs,hu⟩
 case fin=>
  rintro c st' ⟨neq,rfl,hB',hq,hf,hu'⟩;rw[show max n nrem=nrem by omega] at hq hf hu'⊢;exact h nrem neq st' hB' hnn (Nat.le_refl _) hq hf hu'
 case step=>
  rintro x c st' hax hxn ⟨neq,rfl,hB',hq,hf,hu'⟩
  dsimp only
  have hz:=hB'.size;have hsz:x<=(arrOf st').size:=by omega
  refine wpS_bind (wpS_ltK hB' h0 (by omega) (by omega) ?_);by_cases hless:K (arrOf st') x<K (arrOf st') (x - 1)
  ·simp only[hless,decide_true,if_true]
   have low:∀i,i<x->K (arrOf st') x<K (arrOf st') i:=fun i hi=>by
    by_cases hig:i<x - (neq+1)
    ·have:=hf.b i (x - 1) hig (by omega) (by omega);omega
    ·by_cases hi1:i=x - 1
     ·rw[hi1];exact hless
     ·have:=(hf.c i (x - 1) (by omega) (by omega) (by omega)).1;omega
   by_cases hneq:neq>0
   ·rw[if_pos hneq];refine wpS_bind (wpS_reverse (wpS_pure ⟨0,Z,hB'.setArr (mirror_perm _ _ _ _),by omega,⟨?_,fun i j hi hg hj=>?_,fun i j hg hij hj=>by omega⟩,(hu'.mirror hsz (Nat.le_refl _)).mono (Nat.le_succ _)⟩))
    ·exact hf.turned hsz
    ·obtain rfl:j=x:=by omega
     show K (mirror (arrOf st') (j - (neq+1)) j ((j - (j - (neq+1))) / 2)) j<K (mirror (arrOf st') (j - (neq+1)) j ((j - (j - (neq+1))) / 2)) i;rw[K_mirror hsz,K_mirror hsz,if_neg (by omega)]
     split
     ·exact low _ (by omega)
     ·exact low _ (by omega)
   ·rw[if_neg hneq];refine wpS_pure ⟨0,Z,hB',by omega,⟨hf.one (by omega),fun i j hi hg hj=>?_,fun i j hg hij hj=>by omega⟩,hu'.mono (Nat.le_succ _)⟩;obtain rfl:j=x:=by omega
    exact low i (by omega)
  ·simp only[hless,decide_false,Bool.false_eq_true,if_false];refine wpS_bind (wpS_ltK hB' h0 (by omega) (by omega) ?_);by_cases hlarger:K (arrOf st') (x - 1)<K (arrOf st') x
   ·simp only[hlarger,decide_true,if_true];exact wpS_pure (h x neq st' hB' hax (by omega) hq hf hu')
   ·simp only[hlarger,decide_false,Bool.false_eq_true,if_false];have eg:x+1 - (neq+1+1)=x - (neq+1):=by omega
    refine wpS_pure ⟨neq+1,Z,hB',by omega,?_,hu'.mono (Nat.le_succ _)⟩;rw[eg];refine⟨hf.a,fun i j hi hg hj=>?_,fun i j hg hij hj=>?_⟩
    ·by_cases hjx:j<x
     ·exact hf.b i j hi hg hjx
     ·obtain rfl:j=x:=by omega
      have:=hf.b i (j - 1) hi (by omega) (by omega);omega
    ·by_cases hjx:j<x
     ·exact hf.c i j hg hij hjx
     ·obtain rfl:j=x:=by omega
      have u1:=hu' i j hij (Nat.le_refl _) (by omega);by_cases hi1:i=j - 1
      ·subst hi1;omega
      ·have:=hf.c i (j - 1) hg (by omega) (by omega);omega
theorem tO{st:SortSt}{n nrem:Nat}{Q:Option Nat->SortSt->Prop}(h0:IntKeys a₀)(hn:nrem<=a₀.size)(hnn:n+1<=nrem)(hB:SBase a₀ st)(hs:yz (arrOf st) n (n+1))(hu:Up (arrOf st) (n+1))(h:∀m st',SBase a₀ st'->1<=m->m<=nrem->SS (arrOf st') m->Up (arrOf st') m->Q (some m) st'):wpS (model prog w) A E s (descPart n nrem) Q st:=by
 unfold descPart;refine wpS_bind (wpS_lift (wpAny_rule ⟨Z,?_⟩));refine wpS_bind (Li h0 hn (by omega) hnn hB hs hu fun m neq st' hB' hm1 hm2 hq hf hu'=>?_)
 dsimp only
 have hsz:m<=(arrOf st').size:=by rw[hB'.size];omega
 by_cases hneq:neq>0
 ·rw[if_pos hneq];exact wpS_bind (wpS_reverse (Es h0 hn (by omega) hm2 (hB'.setArr (mirror_perm _ _ _ _)) (hf.turned hsz) (hu'.mirror hsz (Nat.le_refl _)) h))
 ·rw[if_neg hneq];exact Es h0 hn (by omega) hm2 hB' (hf.one (by omega)) hu' h
theorem Bm{st:SortSt}{nrem:Nat}{Q:Option Nat->SortSt->Prop}(h0:IntKeys a₀)(hn:nrem<=a₀.size)(h1:1<=nrem)(hB:SBase a₀ st)(hu:Up (arrOf st) 0)(h:∀m st',SBase a₀ st'->1<=m->m<=nrem->SS (arrOf st') m->Up (arrOf st') m->Q (some m) st'):wpS (model prog w) A E s (countRun' 0 nrem) Q st:=by
 rw[countRun0_eq];have hz:=hB.size;refine wpS_bind (Hu h0 hn (Nat.le_refl 1) h1 hB (fun i j hij hj=>by omega) (hu.mono (by omega)) fun n hn1 hn2 hsn hor=>?_)
 dsimp only
 by_cases hnn:n=nrem
 ·rw[if_pos (by simpa using hnn)];exact wpS_pure (h n st hB hn1 hn2 hsn (hu.mono (by omega)))
 ·rw[if_neg (by simpa using hnn)];have hlt:K (arrOf st) n<K (arrOf st) (n - 1):=hor.resolve_left hnn;have hsz:n<=(arrOf st).size:=by omega
  by_cases hgt:n>1
  ·rw[if_pos hgt];refine wpS_bind (wpS_ltK hB h0 (by omega) (by omega) ?_);by_cases hrose:K (arrOf st) 0<K (arrOf st) (n - 1)
   ·simp only[hrose,decide_true,if_true];exact wpS_pure (h n st hB hn1 hn2 hsn (hu.mono (by omega)))
   ·simp only[hrose,decide_false,Bool.false_eq_true,if_false]
    have le0:∀k,k<n->K (arrOf st) 0<=K (arrOf st) k/\K (arrOf st) k<=K (arrOf st) (n - 1):=fun k hk=>by
     refine⟨?_,?_⟩
     ·by_cases z:k=0
      ·subst z;exact Int.le_refl _
      ·have:=hsn 0 k (by omega) hk;omega
     ·by_cases z:k=n - 1
      ·subst z;exact Int.le_refl _
      ·have:=hsn k (n - 1) (by omega) (by omega);omega
    have f:yz (arrOf st) 0 n:=⟨fun i j _ z=>by omega,fun i j z=>by omega,fun i j _ hij hj=>⟨by have:=le0 i (by omega);have:=le0 j hj;omega,hu i j hij (by omega) (by omega)⟩⟩;refine wpS_bind (wpS_reverse (tO h0 hn (by omega) (hB.setArr (mirror_perm _ _ _ _)) ⟨f.turned hsz,fun i j hi hg hj=>?_,fun i j hg hij hj=>by omega⟩ ((hu.mono (show 0<=n+1 by omega)).mirror hsz (Nat.le_succ _)) h));obtain rfl:j=n:=by omega
    show K (mirror (arrOf st) 0 j ((j - 0) / 2)) j<K (mirror (arrOf st) 0 j ((j - 0) / 2)) i;rw[K_mirror hsz,K_mirror hsz,if_neg (by omega),if_pos (by omega)];have a1:=le0 (0+j - 1 - i) (by omega);have a2:=le0 (j - 1) (by omega);omega
  ·rw[if_neg hgt];obtain rfl:n=1:=by omega
   refine tO h0 hn (by omega) hB ⟨fun i j hij hj=>by omega,fun i j hi hg hj=>?_,fun i j hg hij hj=>by omega⟩ (hu.mono (by omega)) h;obtain rfl:i=0:=by omega
   obtain rfl:j=1:=by omega
   exact hlt
theorem Gr{st:SortSt}{n ok:Nat}{Q:Bool->SortSt->Prop}(h0:IntKeys a₀)(hn:n<=a₀.size)(hok:ok<=n)(hB:SBase a₀ st)(hs:SS (arrOf st) ok)(hu:Up (arrOf st) ok)(h:∀st',SBase a₀ st'->SS (arrOf st') n->Q true st'):wpS (model prog w) A E s (binarySort' 0 n ok) Q st:=by
 rw[binarySort'_eq];simp only[Nat.zero_add];refine wpS_bind (wpS_mono (wpS_forRange (I:=fun k c st'=>c=(none,())/\SBase a₀ st'/\SS (arrOf st') (min k n)/\Up (arrOf st') (min k n)) (Q:=fun c st'=>c=(none,())/\SBase a₀ st'/\SS (arrOf st') n) ?step ?fin ?init) ?post)
 case post=>
  rintro c st' ⟨rfl,hB',hs'⟩;exact wpS_pure (h st' hB' hs')
 case init=>
  refine⟨Z,hB,fun i j hij hj=>?_,hu.mono ?_⟩
  ·by_cases h1:ok=0
   ·omega
   ·exact hs i j hij (by omega)
  ·omega
 case fin=>
  rintro c st' ⟨hc,hB',hs',_⟩;refine⟨hc,hB',?_⟩
  rwa [show min (max (max ok 1) n) n=n by omega] at hs'
 case step=>
  rintro k c st' hak hkn ⟨rfl,hB',hs',hu'⟩;rw[show min k n=k by omega] at hs' hu';have hk:k<a₀.size:=by omega
  have hz:=hB'.size
  refine wpS_bind (wpS_mono (wpS_forRange (I:=fun x c st''=>st''=st'/\∃l r,c=(none,l,r)/\l<=r/\r<=k/\r - l<=k - x/\(∀i,i<l->K (arrOf st') i<=K (arrOf st') k)/\(∀i,r<=i->i<k->K (arrOf st') k<K (arrOf st') i))
   (Q:=fun c st''=>st''=st'/\∃l r,c=(none,l,r)/\l<=k/\(∀i,i<l->K (arrOf st') i<=K (arrOf st') k)/\(∀i,l<=i->i<k->K (arrOf st') k<K (arrOf st') i)) ?istep ?ifin ?iinit) ?ipost)
  case iinit=>exact⟨Z,0,k,Z,by omega,by omega,by omega,fun i hi=>by omega,fun i h1 h2=>by omega⟩
  case ifin=>
   rintro c st'' ⟨rfl,l,r,rfl,hlr,hrk,hm,hlo,hhi⟩;obtain rfl:l=r:=by omega
   exact⟨Z,l,l,Z,hrk,hlo,hhi⟩
  case istep=>
   rintro x c st'' _ hxk ⟨rfl,l,r,rfl,hlr,hrk,hm,hlo,hhi⟩
   dsimp only
   by_cases hge:l≥r
   ·rw[if_pos hge];obtain rfl:l=r:=by omega
    exact wpS_pure ⟨Z,l,l,Z,hrk,hlo,hhi⟩
   ·rw[if_neg hge];refine wpS_bind (wpS_ltK hB' h0 hk (by omega) ?_)
    have mon:∀i j,i<=j->j<k->K (arrOf st'') i<=K (arrOf st'') j:=fun i j h1 h2=>by
     by_cases z:i=j
     ·subst z;exact Int.le_refl _
     ·have:=hs' i j (by omega) h2;omega
    by_cases hless:K (arrOf st'') k<K (arrOf st'') ((l+r) / 2)
    ·simp only[hless,decide_true,if_true];refine wpS_pure ⟨Z,l,(l+r) / 2,Z,by omega,by omega,by omega,hlo,fun i h1 h2=>?_⟩;have:=mon _ _ h1 h2;omega
    ·simp only[hless,decide_false,Bool.false_eq_true,if_false];refine wpS_pure ⟨Z,(l+r) / 2+1,r,Z,by omega,by omega,by omega,fun i h1=>?_,hhi⟩;have:=mon i ((l+r) / 2) (by omega) (by omega);omega
  case ipost=>
   rintro c st'' ⟨rfl,l,r,rfl,hlk,hlo,hhi⟩;show wpS _ _ _ _ (do moveDown' k l;pure (ForInStep.yield (none,()))) _ _;rw[moveDown'_eq];have hks:k<(arrOf st'').size:=by omega
   have e1:k - (k - l)=l:=by omega
   refine wpS_bind (wpS_modify (wpS_pure ⟨Z,hB'.setArr (bubble_perm _ _ _),?_,?_⟩))
   ·rw[show min (k+1) n=k+1 by omega];intro i j hij hj;show K (bubble (arrOf st'') k (k - l)) i<K (bubble (arrOf st'') k (k - l)) j\/(K (bubble (arrOf st'') k (k - l)) i=K (bubble (arrOf st'') k (k - l)) j/\Vn (bubble (arrOf st'') k (k - l)) i<Vn (bubble (arrOf st'') k (k - l)) j);rw[K_bubble hks (by omega),K_bubble hks (by omega),oW hks (by omega),oW hks (by omega),e1];have old:=hs';by_cases i1:i=l
    ·rw[if_pos i1,if_pos i1,if_neg (show ¬j=l by omega),if_neg (show ¬j=l by omega),if_pos (by omega),if_pos (by omega)];exact .inl (hhi _ (by omega) (by omega))
    ·rw[if_neg i1,if_neg i1];by_cases j1:j=l
     ·rw[if_pos j1,if_pos j1,if_neg (by omega),if_neg (by omega)];have a1:=hlo i (by omega);have a2:=hu' i k (by omega) (Nat.le_refl _) hks;omega
     ·rw[if_neg j1,if_neg j1]
      repeat' split
      all_goals first
       | (exfalso;omega)
       | exact old _ _ (by omega) (by omega)
   ·rw[show min (k+1) n=k+1 by omega];intro i j hij hkj hj;have hz2:(bubble (arrOf st'') k (k - l)).size=(arrOf st'').size:=(bubble_perm _ _ _).size_eq;have hj':j<(arrOf st'').size:=by rw[<-hz2];exact hj
    show Vn (bubble (arrOf st'') k (k - l)) i<Vn (bubble (arrOf st'') k (k - l)) j;rw[oW hks (by omega),oW hks (by omega),e1,if_neg (show ¬j=l by omega),if_neg (show ¬(l<j/\j<=k) by omega)]
    repeat' split
    all_goals first
     | exact hu' _ j (by omega) (by omega) hj'
noncomputable def Cz(a₀:Array Keyed)(st:SortSt):Prop:=(arrOf st).Perm a₀/\failedOf st=none/\pendingOf st=#[(0,a₀.size,0)]/\SS (arrOf st) a₀.size
theorem Ei{st:SortSt}(hB:SBase a₀ st)(hs:SS (arrOf st) a₀.size):Cz a₀ (setPending st ((pendingOf st).push (0,a₀.size,0))):=
 ⟨hB.perm,hB.failed,by show(pendingOf st).push _=_;rw[hB.pend];rfl,hs⟩
theorem zT{st:SortSt}{Q:Unit->SortSt->Prop}(h0:IntKeys a₀)(hB:SBase a₀ st)(hu:Up (arrOf st) 0)(h2:2<=a₀.size)(h64:a₀.size<64)(h:∀st',(arrOf st').Perm a₀->failedOf st'=none->SS (arrOf st') a₀.size->Q () st'):wpS (model prog w) A E s sortRuns' Q st:=by
 rw[sortRuns'_eq];refine wpS_bind (wpS_get ?_)
 dsimp only
 have hmr:minRun' a₀.size a₀.size 0=a₀.size:=by
  obtain⟨f,hf⟩:∃f,a₀.size=f+1:=⟨a₀.size - 1,by omega⟩;have:minRun' (f+1) a₀.size 0=a₀.size:=by rw[minRun'_succ,if_pos h64];rfl
  rwa [<-hf] at this
 simp only[hB.size,hmr];refine wpS_bind (wpS_mono (wpS_forRange (I:=fun x c st'=>(x=0/\c=(none,0)/\SBase a₀ st'/\Up (arrOf st') 0)\/(1<=x/\c=(none,a₀.size)/\Cz a₀ st')) (Q:=fun c st'=>c=(none,a₀.size)/\Cz a₀ st') ?step ?fin (.inl ⟨Z,Z,hB,hu⟩)) ?post)
 case fin=>
  rintro c st' (⟨hx,_,_⟩ | ⟨_,hc,hD⟩)
  ·omega
  ·exact⟨hc,hD⟩
 case step=>
  rintro x c st' _ hx (⟨rfl,rfl,hB',hu'⟩ | ⟨hx1,rfl,hD⟩)
  ·dsimp only
   rw[if_neg (by omega)];simp only[Nat.sub_zero,Nat.min_self,Nat.zero_add];refine wpS_bind (Bm h0 (Nat.le_refl _) (by omega) hB' hu' fun m st2 hB2 hm1 hm2 hs2 hu2=>?_)
   dsimp only
   by_cases hlt:m<a₀.size
   ·rw[if_pos hlt];refine wpS_bind (wpS_lift (wpAny_rule ⟨Z,?_⟩));refine wpS_bind (Gr h0 (Nat.le_refl _) hm2 hB2 hs2 hu2 fun st3 hB3 hs3=>?_);simp only[Bool.not_true,Bool.false_eq_true,if_false];refine wpS_bind (wpS_get ?_);have hb:(pendingOf st3).back? =none:=by rw[hB3.pend];rfl
    rw[hb]
    dsimp only
    exact wpS_bind (wpS_modify (wpS_pure (.inr ⟨by omega,Z,Ei hB3 hs3⟩)))
   ·rw[if_neg hlt];obtain rfl:m=a₀.size:=by omega
    refine wpS_bind (wpS_get ?_);have hb:(pendingOf st2).back? =none:=by rw[hB2.pend];rfl
    rw[hb]
    dsimp only
    exact wpS_bind (wpS_modify (wpS_pure (.inr ⟨by omega,Z,Ei hB2 hs2⟩)))
  ·dsimp only
   rw[if_pos (Nat.le_refl _)];exact wpS_pure ⟨Z,hD⟩
 case post=>
  rintro c st' ⟨rfl,hD⟩
  dsimp only
  refine wpS_bind (wpS_mono (wpS_forRange (I:=fun _ c st''=>st''=st'/\c=(none,())) (Q:=fun c st''=>st''=st'/\c=(none,())) ?_ (fun _ _ hh=>hh) ⟨Z,Z⟩) ?_)
  ·rintro x c st'' _ _ ⟨rfl,rfl⟩;refine wpS_bind (wpS_get ?_);rw[if_pos (by rw[hD.2.2.1];exact Nat.le_refl 1)];exact wpS_pure ⟨Z,Z⟩
  ·rintro c st'' ⟨rfl,rfl⟩;exact wpS_pure (h _ hD.1 hD.2.1 hD.2.2.2)
end
section
variable{X:Cx}
theorem Inv.adopt {pins:List (Addr×Obj)} {σ:St} {H:Hp} {s:Shared} {D:Addr} {ys:List V} {its:List Value} {n:Nat} (I:Inv X pins σ H s) (f:gF X pins H D) (hD:X.s₀.heap.objs.size<=D) (e:s.heap.get? D=some {cls:= .type "list",data:= .seq its.toArray n}) (r:Vals ys its) (hz:ys.length<=sizeLine):
  Inv X pins σ (upd H D (.lst ys)) s:=by
 have u:=I.base
 have ne:∀b o,X.s₀.heap.get? b=some o->b≠D:=fun b o q z=>by have:=Heap.lt_size q;rw[z] at this;exact absurd (Nat.lt_of_lt_of_le this hD) (Nat.lt_irrefl _)
 have nh:∀b o,X.H₀ b=some o->H b≠none->b≠D:=fun b o _ q z=>q (by rw[z];exact f.1)
 have old:∀{b:Addr}{o:HO},H b=some o->upd H D (.lst ys) b=some o:=fun{b o} q=>by rw[aB (fun z=>by rw[z,f.1] at q;cases q)];exact q
 refine⟨I.ok,I.os,I.bare,⟨u.keep,u.slot,fun b o q n x=>?_,u.there,fun b xs q=>old (u.tups b xs q),fun b o w q=>old (u.frzs b o w q),fun b ps q=>?_⟩,I.loc,I.cell,?_,fun x c q=>?_,fun p hp=>?_,fun b o q=>?_,I.len⟩
 ·rw[aB (ne b o q)];exact u.free b o q n x
 ·obtain⟨m,q1⟩:=u.tbls b ps q;exact⟨m,old q1⟩
 ·rw[aB (Ne.symm f.2.1)];exact I.free
 ·rw[aB (f.2.2.2.2.1 x c q)];exact I.freeC x c q
 ·refine wj (I.pin p hp) fun a b c=>?_;exact⟨a,by rw[aB (f.2.2.2.2.2 p hp)];exact b,c⟩
 ·by_cases z:b=D
  ·rw[z,ak] at q;cases q;rw[z];exact⟨hz,its,n,r,e⟩
  ·rw[aB z] at q;exact(I.hok b o q).stay (fun _ _ _ q=>q) (fun _ q=>old q) fun _ _ q=>old q
theorem Fi{pins:List (Addr×Obj)}{σ:St}{H:Hp}{s:Shared}{k:Nat}{f:Addr}{sp:V->Hp->VK->Prop}{v:V}{u:Value}{Q:VK}(hr:dD (k+2) X.A)(hB:BMain X.mg X.base)(hfn:∀x,X.fn x=true)(G:∀base',lH X.K X.mg base'->Ba X σ base'->wz X.prog X.w X.K X.mg base' k f sp)(I:Inv X pins σ H s)(ru:RelV v u)(h:sp v H Q){E:Value->Shared->Prop}:
  wpAny (model X.prog X.w) X.A.in1.in1 (call (.ref f) [u]) (EP X pins σ Q) E s:=by
 refine bL (rebase I hB hfn) fun base' ok cap e0=>?_;refine wpAny_call (codeAny_mono ((G base' ok cap).run X.A.in1.in1 X.stack s H u v Q hr.in1.in1 e0.in1.in1 ru h) fun r s' hq=>?_);cases r with
 | error e=>
  refine dJ hq fun _ _ _ _ _ _ _ _ _ _ _ z=>?_;exact False.elim z
 | ok fl=>
  cases fl with
  | ret u=>exact I.after hq
  | next=>exact False.elim hq
  | brk=>exact False.elim hq
  | cont=>exact False.elim hq
noncomputable def jL(kf:Int->Int)(ns ms:List Int):Prop:=ms.Perm ns/\ms.Pairwise fun a b=>kf a<kf b\/(kf a=kf b/\a<b)
theorem Df{kf:Int->Int}{ns:List Int}{its:List Value}{keys:Array Value}{xs:Array Keyed}(ri:IntsAre its ns)(rk:IntsAre keys.toList (ns.map kf))(hp:xs.Perm (keys.zip its.toArray))(hs:SS xs xs.size):
  ∃ms,jL kf ns ms/\Vals (ms.map V.int) (xs.map (·.2)).toList:=by
 have hl:xs.toList.Perm (keys.toList.zip its):=by rw[<-ksk_zip];exact Array.perm_iff_toList_perm.mp hp
 have e0:(keys.toList.zip its).map (fun p:Keyed=>(numOf p.1,numOf p.2))=(ns.map kf).zip ns:=by rw[<-rk.nums,<-ri.nums,List.zip_map];rfl
 have e1:∀p∈xs.toList,(∃t,p.2= .int (numOf p.2) t)/\numOf p.1=kf (numOf p.2):=fun p hp'=>by
  have m:=hl.mem_iff.mp hp';have m2:(numOf p.1,numOf p.2)∈(ns.map kf).zip ns:=by rw[<-e0];exact List.mem_map_of_mem m
  refine⟨?_,?_⟩
  ·refine zb (ri.all p.2 (List.of_mem_zip m).2) fun n t q=>?_;exact⟨t,by rw[q];rfl⟩
  ·obtain⟨i,hi,q⟩:=List.getElem_of_mem m2;rw[List.getElem_zip,List.getElem_map] at q;have q1:=congrArg Prod.fst q;have q2:=congrArg Prod.snd q
   dsimp only at q1 q2
   rw[<-q1,q2]
 refine⟨xs.toList.map fun p=>numOf p.2,⟨?_,?_⟩,?_⟩
 ·have h1:=hl.map (fun p:Keyed=>numOf p.2)
  have e2:(keys.toList.zip its).map (fun p:Keyed=>numOf p.2)=ns:=by
   have:(keys.toList.zip its).map (fun p:Keyed=>numOf p.2)=((keys.toList.zip its).map (fun p:Keyed=>(numOf p.1,numOf p.2))).map Prod.snd:=by rw[List.map_map];rfl
   rw[this,e0,List.map_snd_zip (by simp)]
  rwa [e2] at h1
 ·rw[List.pairwise_map,List.pairwise_iff_getElem];intro i j hi hj hij;have hi':i<xs.size:=by simpa using hi
  have hj':j<xs.size:=by simpa using hj
  have q:=hs i j hij hj';have a1:K xs i=kf (numOf xs[i].2):=by rw[K_eq hi'];exact(e1 _ (by simp)).2
  have a2:K xs j=kf (numOf xs[j].2):=by rw[K_eq hj'];exact(e1 _ (by simp)).2
  have b1:Vn xs i=numOf xs[i].2:=by unfold Vn;rw[getElem?_pos xs i hi']
  have b2:Vn xs j=numOf xs[j].2:=by unfold Vn;rw[getElem?_pos xs j hj']
  rw[a1,a2,b1,b2] at q;simpa using q
 ·rw[Array.toList_map,List.map_map]
  have:∀l:List Keyed,(∀p∈l,∃t,p.2=Value.int (numOf p.2) t)->Vals (l.map (V.int∘fun p=>numOf p.2)) (l.map fun p=>p.2):=by
   intro l;induction l with
   | nil=>exact fun _=> .nil
   | cons p l ih=>exact fun h=> .cons (h p (.head _)) (ih fun q hq=>h q (.tail _ hq))
  exact this _ fun p hp'=>(e1 p hp').1
theorem ints_of{ns:List Int}{its:List Value}(r:Vals (ns.map V.int) its):IntsAre its ns:=by
 induction ns generalizing its with
 | nil=>cases r;exact .nil
 | cons n ns ih=>
  cases r with
  | cons r1 r2=>
   obtain⟨t,rfl⟩:=r1;exact .cons n t (ih r2)
theorem uB{h:Heap}{D:Addr}{xs:Array Value}{e1:Nat}(hd:h.get? D=some {cls:= .type "list",data:= .seq xs e1})(out:Array Value):∃c2,(h.update D (Obj.mapSeq fun _=>out)).get? D=some {cls:= .type "list",data:= .seq out c2}:=⟨_,get?_update_seq hd fun _=>out⟩
theorem Hi{pins:List (Addr×Obj)}{σ:St}{H:Hp}{s:Shared}{D kS:Addr}{keys:Array Value}{e e1:Nat}{st:SortSt}{ms:List Int}{A:Around}{E:Value->Shared->Prop}{P:PySem.Fin->Shared->Prop}(I:Inv X pins σ H s)(hk:s.heap.get? kS=some {cls:= .type "list",data:= .seq keys e})(hd:s.heap.get? D=some {cls:= .type "list",data:= .seq #[] e1})(fk:gF X pins H kS)(fd:gF X pins H D)(hD:X.s₀.heap.objs.size<=D)(hkD:kS≠D)(hz:keys.size<=64)(hfl:failedOf st=none)(hl:ms.length<=64)(hv:Vals (ms.map V.int) ((arrOf st).map (·.2)).toList)(h:∀s',Inv X pins σ (upd H D (.lst (ms.map V.int))) s'->P (.done (.ret .none)) s'):wpAny (model X.prog X.w) A (ksk_tail D false e1 (.ref kS) st) P E s:=by
 have hlen:=hv.length;have hsz:((arrOf st).map (·.2)).size=ms.length:=by rw[<-Array.length_toList,<-hlen,List.length_map]
 have I1:=jm (t':=s.toks) I fk (h':=s.heap.update kS (Obj.mapSeq fun _=>(#[]:Array Value))) fun b o nb q=>(Heap.get?_update_other _ _ (Ne.symm nb)).trans q;have hd1:(s.heap.update kS (Obj.mapSeq fun _=>(#[]:Array Value))).get? D=some {cls:= .type "list",data:= .seq #[] e1}:=(Heap.get?_update_other _ _ hkD).trans hd;have I2:=jm (t':=s.toks) I1 fd (h':=(s.heap.update kS (Obj.mapSeq fun _=>(#[]:Array Value))).update D (Obj.mapSeq fun _=>(arrOf st).map (·.2))) fun b o nb q=>(Heap.get?_update_other _ _ (Ne.symm nb)).trans q;obtain⟨c2,hc2⟩:=uB hd1 ((arrOf st).map (·.2));unfold ksk_tail
 try dsimp only
 refine wpAny_bind (listUpdate_at hk Z ?_ (by rw[sizeLine_eq];omega) (Nat.zero_le _));refine wpAny_bind (wpAny_letGo ?_);refine wpAny_bind (seqEpoch_at hd1 Z ?_);refine wpAny_bind (listUpdate_at hd1 Z ?_ (Nat.zero_le _) (by simp only[Bool.false_eq_true,if_false];rw[hsz,sizeLine_eq];omega));rw[hfl];simp only[bne_self_eq_false,Bool.false_eq_true,if_false];exact wpAny_pure (h _ (I2.adopt (its:=((arrOf st).map (·.2)).toList) (n:=c2) fd hD (by rw[Array.toArray_toList];exact hc2) hv (by rw[List.length_map,sizeLine_eq];omega)))
theorem Qg{ns:List Int}{its:List Value}{keys:Array Value}(ri:IntsAre its ns)(hk:keys.size=its.length)(ha:ns.Pairwise (·<·)):Up (keys.zip its.toArray) 0:=fun i j hij _ hj=>by
 have hl:=ri.length;have hz:(keys.zip its.toArray).size=its.length:=by rw[Array.size_zip,hk,List.size_toArray,Nat.min_self]
 rw[hz] at hj
 have val:∀k(hk':k<its.length),Vn (keys.zip its.toArray) k=ns[k]'(by omega):=fun k hk'=>by
  unfold Vn;rw[getElem?_pos _ k (by rw[hz];exact hk')]
  dsimp only
  rw[Array.getElem_zip]
  dsimp only
  obtain⟨t,q⟩:=ri.get k (ns[k]'(by omega)) (List.getElem?_eq_getElem (by omega))
  have q':its[k]=Value.int (ns[k]'(by omega)) t:=by rw[List.getElem?_eq_getElem hk'] at q;exact Option.some.inj q
  rw[List.getElem_toArray,q'];rfl
 rw[val i (by omega),val j hj];exact List.pairwise_iff_getElem.mp ha i j _ _ hij
theorem Ks{pins:List (Addr×Obj)}{σ:St}{H:Hp}{s:Shared}{D kS:Addr}{keys:Array Value}{e e1:Nat}{its:List Value}{ns:List Int}{kf:Int->Int}{A:Around}{E:Value->Shared->Prop}{P:PySem.Fin->Shared->Prop}(I:Inv X pins σ H s)(hk:s.heap.get? kS=some {cls:= .type "list",data:= .seq keys e})(hd:s.heap.get? D=some {cls:= .type "list",data:= .seq #[] e1})(fk:gF X pins H kS)(fd:gF X pins H D)(hD:X.s₀.heap.objs.size<=D)(hkD:kS≠D)(ri:IntsAre its ns)(rk:IntsAre keys.toList (ns.map kf))(h64:ns.length<64)(ha:ns.Pairwise (·<·))(h:∀ms s',jL kf ns ms->Inv X pins σ (upd H D (.lst (ms.map V.int))) s'->P (.done (.ret .none)) s'):wpAny (model X.prog X.w) A (ksk_end D false its.toArray e1 (.ref kS) keys) P E s:=by
 have hl:=ri.length
 have hsz:keys.size=its.length:=by have h1:=rk.length;rw[Array.length_toList,List.length_map] at h1;omega
 have hzs:(keys.zip its.toArray).size=its.length:=by rw[Array.size_zip,hsz,List.size_toArray,Nat.min_self]
 have fin:∀(st:SortSt)(s':Shared),s'=s->(arrOf st).Perm (keys.zip its.toArray)->failedOf st=none->SS (arrOf st) (arrOf st).size->wpAny (model X.prog X.w) A (ksk_tail D false e1 (.ref kS) st) P E s':=by rintro st s' rfl hp hf hs;refine aO (Df ri rk hp hs) fun ms sk hv=>?_;have hm:=sk.1.length_eq;exact Hi I hk hd fk fd hD hkD (by omega) hf (by omega) hv fun s' J=>h ms s' sk J
 unfold ksk_end;simp only[Bool.false_eq_true,if_false];by_cases h2:its.toArray.size<2
 ·rw[if_pos h2,if_pos h2];refine wpAny_bind (wpAny_pure ?_);rw[StateT.run_pure];refine wpAny_bind (wpAny_pure ?_);refine fin _ _ Z (Array.Perm.refl _) Z fun i j hij hj=>?_;have hj2:j<(keys.zip its.toArray).size:=hj;rw[List.size_toArray] at h2;omega
 ·rw[if_neg h2,if_neg h2];rw[List.size_toArray] at h2;rw[ksk_kind rk (by omega)];refine wpAny_bind (wpAny_pure ?_)
  refine wpAny_bind (wpAny_mono (zT (a₀:=keys.zip its.toArray) (st:=SortSt.mk' oneType' (keys.zip its.toArray) #[] 7 none) (Q:=fun _ st'=>(arrOf st').Perm (keys.zip its.toArray)/\failedOf st'=none/\SS (arrOf st') (keys.zip its.toArray).size)
   (ksk_intKeys rk) ⟨Array.Perm.refl _,Z,Z,Z⟩ (Qg ri hsz ha) (by omega) (by omega) fun st' a1 a2 a3=>⟨a1,a2,a3⟩) ?_ fun _ _ e=>e)
  rintro⟨⟨⟩,st'⟩ s' ⟨rfl,hp,hf,hs⟩;exact fin st' _ Z hp hf (by rw[hp.size_eq];exact hs)
theorem Ip{pins:List (Addr×Obj)}{σ:St}{H:Hp}{s:Shared}{D kS f:Addr}{e1 k:Nat}{its:List Value}{ns:List Int}{kf:Int->Int}{sp:V->Hp->VK->Prop}{E:Value->Shared->Prop}{P:PySem.Fin->Shared->Prop}(hr:dD (k+2) X.A)(hB:BMain X.mg X.base)(hfn:∀x,X.fn x=true)(G:∀base',lH X.K X.mg base'->Ba X σ base'->wz X.prog X.w X.K X.mg base' k f sp)(turn:∀n∈ns,∀Q':VK,Q' (.int (kf n)) H->sp (.int n) H Q')(I:Inv X pins σ H s)(hk:s.heap.get? kS=some {cls:= .type "list",data:= .seq #[] 0})(hd:s.heap.get? D=some {cls:= .type "list",data:= .seq #[] e1})(fk:gF X pins H kS)(fd:gF X pins H D)(hD:X.s₀.heap.objs.size<=D)(hkD:kS≠D)(ri:IntsAre its ns)(h64:ns.length<64)(ha:ns.Pairwise (·<·))(h:∀ms s',jL kf ns ms->Inv X pins σ (upd H D (.lst (ms.map V.int))) s'->P (.done (.ret .none)) s'):wpAny (model X.prog X.w) X.A.in1.in1 (ksk_rest D (.ref f) false its.toArray e1 (.ref kS)) P E s:=by
 have hl:=ri.length;unfold ksk_rest;refine wpAny_bind (wpAny_rule ?_);rw[List.forIn_toArray];refine wpAny_bind (ksk_fold (fun i s'=>∃kA e,Inv X pins σ H s'/\s'.heap.get? kS=some {cls:= .type "list",data:= .seq kA e}/\s'.heap.get? D=some {cls:= .type "list",data:= .seq #[] e1}/\IntsAre kA.toList ((ns.map kf).take i)) its 0 s ⟨#[],0,I,hk,hd,by simpa using IntsAre.nil⟩ ?step ?done)
 case step=>
  rintro j x s' hx ⟨kA,e,I',hk',hd',ra⟩;simp only[Nat.zero_add] at ra⊢;have hj:j<its.length:=(List.getElem?_eq_some_iff.mp hx).1;have hn:ns[j]? =some (ns[j]'(by omega)):=List.getElem?_eq_getElem (by omega);obtain⟨tv,q⟩:=ri.get j _ hn;rw[hx] at q;cases q
  have hz:kA.size<=64:=by have h1:=ra.length;rw[Array.length_toList,List.length_take,List.length_map] at h1;omega
  have I2:Inv X (pins++[(kS,{cls:= .type "list",data:= .seq kA e}),(D,{cls:= .type "list",data:= .seq #[] e1})]) σ H s':=I'.pins_of fun p hp=>by
   rcases List.mem_append.mp hp with hp | hp
   ·exact I'.pin p (List.mem_append_right _ hp)
   ·rcases List.mem_cons.mp hp with rfl | hp
    ·exact⟨hk',fk.1,fk.2.1,fk.2.2.1,fun v z=>by cases z⟩
    ·rw[List.mem_singleton.mp hp];exact⟨hd',fd.1,fd.2.1,fd.2.2.1,fun v z=>by cases z⟩
  refine wpAny_bind (wpAny_attempt (wpAny_mono (Fi (v:= .int (ns[j]'(by omega))) hr hB hfn G I2 ⟨tv,Z⟩ (turn _ (List.getElem_mem _) (fun v H'=>v= .int (kf (ns[j]'(by omega)))/\H'=H) ⟨Z,Z⟩)) (fun u s2 hu=>?_) fun _ _ z=>z));refine jG hu fun v H2 I3 ru e4_ e5_=>?_;subst e4_;subst e5_;obtain⟨t2,rfl⟩:=ru;have pk:=(I3.pin (kS,{cls:= .type "list",data:= .seq kA e}) (List.mem_append_right _ (List.mem_append_right _ (.head _)))).1;have pd:=(I3.pin (D,{cls:= .type "list",data:= .seq #[] e1}) (List.mem_append_right _ (List.mem_append_right _ (.tail _ (.head _))))).1;have I4:Inv X pins σ H2 s2:=I3.unpinned;have I5:=jm (t':=s2.toks) I4 fk (h':=s2.heap.update kS (Obj.mapSeq (·.push (.int (kf (ns[j]'(by omega))) t2)))) fun b o nb q=>(Heap.get?_update_other _ _ (Ne.symm nb)).trans q;obtain⟨c2,hc2⟩:∃c2,(s2.heap.update kS (Obj.mapSeq (·.push (.int (kf (ns[j]'(by omega))) t2)))).get? kS=some {cls:= .type "list",data:= .seq (kA.push (.int (kf (ns[j]'(by omega))) t2)) c2}:=⟨_,get?_update_seq pk (·.push (.int (kf (ns[j]'(by omega))) t2))⟩;have ek:(ns.map kf).take (j+1)=(ns.map kf).take j++[kf (ns[j]'(by omega))]:=by rw[List.take_add_one,List.getElem?_map,hn];simp
  have ea:(kA.push (Value.int (kf (ns[j]'(by omega))) t2)).toList=kA.toList++[Value.int (kf (ns[j]'(by omega))) t2]:=by simp
  refine wpAny_bind (listUpdate_at pk Z ?_ (by rw[sizeLine_eq];omega) (Nat.le_trans (Nat.le_of_eq (Array.size_push ..)) (by rw[sizeLine_eq];omega)));exact wpAny_pure ⟨Z,_,c2,I5,hc2,(Heap.get?_update_other _ _ hkD).trans pd,by rw[ea,ek];exact ksk_snoc ra⟩
 case done=>
  rintro s' ⟨kA,e,I',hk',hd',ra⟩
  have ra':IntsAre kA.toList (ns.map kf):=by have e3:(ns.map kf).take (0+its.length)=ns.map kf:=List.take_of_length_le (by rw[List.length_map];omega);rw[e3] at ra;exact ra
  refine wpAny_bind (listItems_at hk' Z ?_);exact Ks I' hk' hd' fk fd hD hkD ri ra' h64 ha h
noncomputable def MK(X:Cx)(k:Nat):St->List V->V->Hp->VK->Prop:=fun σ xs g H Q=>∃(l f:Addr)(ns:List Int)(kf:Int->Int)(sp:V->Hp->VK->Prop),xs=[.ref l]/\g= .ref f/\H l=some (.lst (ns.map V.int))/\ns.Pairwise (·<·)/\ns.length<64/\
 (∀base',lH X.K X.mg base'->Ba X σ base'->wz X.prog X.w X.K X.mg base' k f sp)/\(∀n∈ns,∀Q':VK,Q' (.int (kf n)) H->sp (.int n) H Q')/\
 ∀D ms,H D=none->jL kf ns ms->Q (.ref D) (upd H D (.lst (ms.map V.int)))
theorem zA{k:Nat}(hr:dD (k+2) X.A)(hB:BMain X.mg X.base)(hfn:∀x,X.fn x=true):CallKw X "sorted" (MK X k):=by
 intro pins s σ H xs us g u Q I rv rg h;refine dJ h fun l f ns kf sp e5_ e6_ hl ha h64 G p11_=>?_;subst e5_;subst e6_;obtain⟨turn,hQ⟩:=p11_;refine aO (vals1 rv) fun _ e1_ ru=>?_;subst e1_;cases ru;obtain rfl:u=Value.ref f:=rg;refine bL (rn I hl) fun its rvl isl _=>?_;have ri:=ints_of rvl;have hlen:=ri.length;refine call_function_entry_kw kind_sorted plain_sorted entry_sorted (ksk_s1 _ _) ?_;unfold Builtin.«sorted»;refine wpAny_bind (m:=checkCount "sorted" 1 1 _) (wpAny_pure ?_);refine wpAny_bind (collect_list isl ?_ (by rw[sizeLine_eq];omega));refine wpAny_bind (wpAny_newList ?_ (by rw[sizeLine_eq];omega));have hsz:((s.heap.push (seqObj "list" #[] 0)).update s.heap.objs.size (Obj.mapSeq (·++its.toArray))).objs.size=s.heap.objs.size+1:=by rw[Heap.size_update,size_push']
 generalize hD:((s.heap.push (seqObj "list" #[] 0)).update s.heap.objs.size (Obj.mapSeq (·++its.toArray))).objs.size=D at hsz⊢
 have keep0:∀b o,s.heap.get? b=some o->((s.heap.push (seqObj "list" #[] 0)).update s.heap.objs.size (Obj.mapSeq (·++its.toArray))).get? b=some o:=fun b o q=>by have hlt:b<s.heap.objs.size:=Heap.lt_size q;rw[Heap.get?_update_ne _ _ _ _ (Nat.ne_of_lt hlt)];exact Heap.get?_push_of_some _ q
 generalize ((s.heap.push (seqObj "list" #[] 0)).update s.heap.objs.size (Obj.mapSeq (·++its.toArray)))=h1 at hD keep0⊢;have I1:=I.kept (t':=s.toks) (h':=h1.push {cls:= .type "list",data:= .seq its.toArray}) fun b o q=>Heap.get?_push_of_some _ (keep0 b o q);have gD:(h1.push {cls:= .type "list",data:= .seq its.toArray}).get? D=some {cls:= .type "list",data:= .seq its.toArray}:=by rw[<-hD];exact Heap.get?_push_size _ Z
 have zD:(h1.push {cls:= .type "list",data:= .seq its.toArray}).objs.size=D+1:=by rw[Heap.size_push,hD]
 have fd:gF X pins H D:=I.fpOk (by omega) (I.hok.fresh (by omega));have hD0:X.s₀.heap.objs.size<=D:=Nat.le_trans I.sz (by omega);have nD:H D=none:=fd.1;refine wpAny_bind (wpAny_holding (wpAny_call_entry_kw slot_list_sort ⟨_,gD,Z⟩ entry_list_sort ?body (ksk_l1 _ _)))
 case body=>
  show wpAny (model X.prog X.w) X.A.in1.in1 (Builtin.«list.sort» ⟨[.ref D],[(Str.ofString "key",.ref f)]⟩) _ _ _;rw[ksk_t1];unfold ksk_tree;refine wpAny_bind (listItems_at gD Z ?_);refine wpAny_bind (listUpdate_at gD Z ?_ (by rw[List.size_toArray,sizeLine_eq];omega) (Nat.zero_le _));obtain⟨e1,gD1⟩:=uB gD #[];have I2:=jm (t':=s.toks) I1 fd (h':=(h1.push {cls:= .type "list",data:= .seq its.toArray}).update D (Obj.mapSeq fun _=>(#[]:Array Value))) fun b o nb q=>(Heap.get?_update_other _ _ (Ne.symm nb)).trans q;have z2:((h1.push {cls:= .type "list",data:= .seq its.toArray}).update D (Obj.mapSeq fun _=>(#[]:Array Value))).objs.size=D+1:=by rw[Heap.size_update,zD]
  generalize ((h1.push {cls:= .type "list",data:= .seq its.toArray}).update D (Obj.mapSeq fun _=>(#[]:Array Value)))=h2 at gD1 I2 z2⊢;refine wpAny_bind (seqEpoch_at gD1 Z ?_);refine wpAny_bind (wpAny_newTuple ?_ (by show its.length<=_;rw[sizeLine_eq];omega));refine wpAny_bind (wpAny_newList ?_ (Nat.zero_le _));have I3:=I2.kept (t':=s.toks) (h':=(h2.push {cls:= .type "tuple",data:= .seq its.toArray}).push {cls:= .type "list",data:= .seq (List.toArray ([]:List Value))}) fun b o q=>Heap.get?_push_of_some _ (Heap.get?_push_of_some _ q);have zk:(h2.push {cls:= .type "tuple",data:= .seq its.toArray}).objs.size=D+2:=by rw[Heap.size_push,z2]
  have gk:((h2.push {cls:= .type "tuple",data:= .seq its.toArray}).push {cls:= .type "list",data:= .seq (List.toArray ([]:List Value))}).get? (D+2)=some {cls:= .type "list",data:= .seq #[] 0}:=by rw[<-zk];exact Heap.get?_push_size _ Z
  have fk:gF X pins H (D+2):=I.fpOk (by omega) (I.hok.fresh (by omega));refine wpAny_holding ?_;show wpAny _ _ (ksk_rest D (.ref f) false its.toArray e1 (.ref (h2.push {cls:= .type "tuple",data:= .seq its.toArray}).objs.size)) _ _ _;rw[zk];exact Ip hr hB hfn G turn I3 gk (Heap.get?_push_of_some _ (Heap.get?_push_of_some _ gD1)) fk fd hD0 (show @Ne Nat (D+2) D by omega) ri h64 ha fun ms s' sk J=>⟨_,Z,wpAny_pure ⟨_,Z,.ref D,_,J,Z,hQ D ms nD sk⟩⟩
end
theorem BX:∀{its:List Value}{ns:List Int},IntsAre its ns->W.kf_ints its=true
 | _,_,.nil=>Z
 | _,_,.cons n t h=>by have:=BX h;exact this
theorem tH{k:Int}:∀{its:List Value}{ns:List Int},IntsAre its ns->its.countP (isInt k)=ns.count k
 | _,_,.nil=>Z
 | _,_,.cons n t h=>by
  have:=tH (k:=k) h;rw[List.countP_cons,List.count_cons,this]
  congr 1
noncomputable def K7:V->List V->Hp->VK->Prop:=fun x vs H Q=>∃(l:Addr)(ns:List Int)(n:Int),x= .ref l/\vs=[.int n]/\H l=some (.lst (ns.map V.int))/\Q (.int (ns.count n:Nat)) H
noncomputable def Jm:V->List V->Hp->VK->Prop:=fun x vs H Q=>∃(l:Addr)(ns:List Int)(n:Int),x= .ref l/\vs=[.int n]/\H l=some (.lst (ns.map V.int))/\n∈ns/\Q .non (upd H l (.lst ((ns.erase n).map V.int)))
section
variable{X:Cx}
theorem Ez:Qi X "list.count" K7:=by
 intro pins s σ H x vs v us Q I rx rv h;refine jn h fun l ns n e3_ e4_ hH q=>?_;subst e3_;subst e4_;cases rx;refine aO rv.one fun u e1_ ru=>?_;subst e1_;obtain⟨t,rfl⟩:=ru;refine zG (I.lstM hH) fun zz its m r hl e=>?_;have ri:=ints_of r;have hk:=BX ri;refine call_meets F.slot_list_count ⟨_,e,Z⟩ F.entry_list_count (F.args_list_count_2 _ _) (MeetsSeq.list_count l its.toArray m (.int n t) (isInt n) (fun y hy=>W.kf_eq hk y (by simpa using hy))) ⟨e,⟨.int _,H,I.tok _,⟨_,Z⟩,?_⟩⟩;have e1:(its.toArray.toList.countP (isInt n):Nat)=ns.count n:=by simpa using tH ri
 rw[e1];exact q
theorem BV:Pk X "list.remove" Jm:=by
 intro pins s σ H x vs v us Q I rx rv h;refine kh h fun l ns n e3_ e4_ hH hm q=>?_;subst e3_;subst e4_;cases rx;refine aO rv.one fun u e1_ ru=>?_;subst e1_;obtain⟨t,rfl⟩:=ru;refine zG (I.lstM hH) fun zz its m r hl e=>?_;have ri:=ints_of r;have hk:=BX ri;have hlen:=ri.length;have hj:ns.idxOf n<ns.length:=List.idxOf_lt_length_of_mem hm
 have at':∀(i:Nat)(hi:i<its.length),isInt n its[i]=decide (ns[i]'(by omega)=n):=fun i hi=>by obtain⟨t',q'⟩:=ri.get i (ns[i]'(by omega)) (List.getElem?_eq_getElem (by omega));rw[List.getElem?_eq_getElem hi] at q';rw[Option.some.inj q'];rfl
 refine call_meets F.slot_list_remove ⟨_,e,Z⟩ F.entry_list_remove (F.args_list_remove_2 _ _) (MeetsSeq.list_remove l its.toArray m (.int n t) (isInt n) (fun y hy=>W.kf_eq hk y (by simpa using hy)) (ns.idxOf n) (by rw[List.size_toArray];omega) ?_ ?_ (by rw[List.size_toArray];rw[List.length_map] at hl zz;omega)) ⟨e,?_⟩
 ·rw[List.getElem_toArray,at' _ (by omega)];exact decide_eq_true (List.getElem_idxOf hj)
 ·intro i hi hlt;have hi':i<its.length:=by simpa using hi
  rw[List.getElem_toArray,at' _ hi'];refine decide_eq_false fun z=>?_;have:=List.not_of_lt_findIdx (p:=(·==n)) (xs:=ns) hlt;simp[z] at this
 ·refine⟨.non,_,I.lset (its':=its.eraseIdx (ns.idxOf n)) hH e ?_ ?_ ?_,Z,q⟩
  ·show its.toArray.eraseIdxIfInBounds _=_;rw[List.eraseIdxIfInBounds_toArray]
  ·rw[List.erase_eq_eraseIdx_of_idxOf rfl];have:=r.eraseIdx (ns.idxOf n)
   have e2:(ns.map V.int).eraseIdx (ns.idxOf n)=(ns.eraseIdx (ns.idxOf n)).map V.int:=by rw[List.eraseIdx_eq_take_drop_succ,List.eraseIdx_eq_take_drop_succ,List.map_append,List.map_take,List.map_drop]
   rwa [e2] at this
  ·rw[List.length_map] at zz⊢;exact Nat.le_trans List.length_erase_le zz
end
end L2
namespace K19
open PySem L2 M4
noncomputable def uo(K:W.Frag)(cC:Addr):Sp:=fun vs H Q E=>∃u v,vs=[u,v]/\TC K H u/\TC K H v/\(∀a r g b a' r' g' b',u= .ref a->jD H a r g b->v= .ref a'->jD H a' r' g' b'->∀H',aC H H'->Q (.int (qP r g b r' g' b')) H')/\((jR H u&&jR H v)=false->∀H',aC H H'->E (.ref cC) none H')
section
variable{P:Program}{w:World}{K:W.Frag}{mg:Str->Option Value}{base:Heap}{cFE cC cN cM cP cL cB cD cZ:Addr}{tP tS tC tI:Tok}
theorem HH:aL ["one","other"] ["one","other"] (aA yN):=by walk_at "s"
theorem Bh{f:Addr}{fd:FuncData}(F:bf K "apart" "apart" yN .none f fd)(T:Txt K mg cFE cC cN cM cP cL cB cD cZ tP tS tC tI)(g_need_colour:DefX P w K mg base 4 "need_colour" ["colour"] [] (yQ K cC)):bD P w K mg base (kj P w) 5 f fd ["one","other"] (uo K cC):=by
 refine F.okX HH (fun vs H Q E h=>?_) (fun cdv A outer s H vs Q E hr h=>?_)
 ·refine gP h fun u v e2_ _=>?_;subst e2_;rfl
 ·refine yS h fun u v e2_ tu tv kY kN=>?_;subst e2_
  refine⟨_,(ao (bQ (bB g_need_colour (hr.mono (by decide)) eV Z (aa (pv 0) aj)))
    (ao (bQ (bB g_need_colour (hr.mono (by decide)) eV Z (aa (pv 1) aj)))
    (az (aN (aR (HW Z) Z T.sum PyProof.Rows.boot_sum (aa (bH (N:=["place","part","other"]) (src:=[none,none,some 1]) Z ⟨Z,Z,Z,Z,Z,by decide+kernel⟩ (Ir K Z Z T.enumerate (aa (pv 0) aj)) (fun s H C fp=>(Ed (n:=2) K Z Z (dI (aJ (i:=0) (show(["place","part","other"]:List Str).Nodup by decide+kernel) Z (.inl Z)) (dI (aJ (i:=1) (show(["place","part","other"]:List Str).Nodup by decide+kernel) Z (.inl Z)) o9)))) (fun s H C fp=>bF) (fun s H C fp=>(aG yx (aG pY (pv 1) (bw (tV K Z) (pv 2) (pv 0) (fun _ _=>Z))) aq))) aj)))))),?_⟩
  refine m8 _ Z u Z tu (fun hu H1 s1=>?_) fun hu=>kN (by rw[hu];rfl);refine m8 _ Z v Z (tv.mono s1) (fun hv H2 s2=>?_) fun hv H2 s2=>kN (by rw[rC tv s1] at hv;rw[hv,Bool.and_false]) H2 (s1.trans s2);rw[rC tv s1] at hv;refine gn (zF hu) fun a r g b e4_ c=>?_;subst e4_;refine gn (zF hv) fun a' r' g' b' e4_ c'=>?_;subst e4_;have s12:=s1.trans s2;have d:=c.mono s12;have d':=c'.mono s12;have kY:=kY a r g b a' r' g' b' Z c Z c';refine bc _ Z a Z ⟨_,d7.of d.top⟩ fun D hD=>?_;refine zV (k1:=0) (k2:=1) (fun p=>match p with | (.int i,.int x)=> .int ((x - (([r',g',b'].getD i.toNat 0:Nat):Int)) ^ 2) | _=> .non) (fun _=>true) (CK (d7.of d.top)) (by rw[oX];show 3<=sizeLine;decide) hD (fun x _ H' Qb _ kk=>kk H' (aC.refl _)) (fun x hx _ H' Q' sm kk=>?_) fun H3 s3 hD3=>?_
  ·obtain⟨i,hi⟩:=List.mem_iff_getElem?.mp hx;refine aO (qM hi) fun y e1 e2_=>?_;subst e2_;have tt:=kk H' (aC.refl _);have top':=sm _ _ d'.top;have bd:∀{m n:Nat},m<=255->n<=255->((m:Int) - (n:Int)).natAbs<2 ^ 64:=fun{m n} h1 h2=>by omega
   match i,e1 with
   | 0,e1=>cases e1;exact fB _ Z (aH _ Z _ Z a' _ _ _ Z Z (d7.of top') (aQ (j:=0) Z) (du _ _ Z Z _ _ Z Z ⟨by decide,by decide,bd c.lr c'.lr⟩ tt))
   | 1,e1=>cases e1;exact fB _ Z (aH _ Z _ Z a' _ _ _ Z Z (d7.of top') (aQ (j:=1) Z) (du _ _ Z Z _ _ Z Z ⟨by decide,by decide,bd c.lg c'.lg⟩ tt))
   | 2,e1=>cases e1;exact fB _ Z (aH _ Z _ Z a' _ _ _ Z Z (d7.of top') (aQ (j:=2) Z) (du _ _ Z Z _ _ Z Z ⟨by decide,by decide,bd c.lb c'.lb⟩ tt))
   | i+3,e1=>cases e1
  ·exact di D [zJ r r',zJ g g',zJ b b'] Z (aP.of hD3) (kY H3 (s12.trans s3))
end
theorem eq_self{K:W.Frag}{H:Hp}{xs:List V}(hf:∀x∈xs,(∃a,x= .ref a)\/jZ x=true)(i:Nat)(x y:V)(hx:xs[i]? =some x)(hy:xs[i]? =some y):Am K H 0 x y true:=by
 rw[hx] at hy;cases hy;rcases hf x (List.mem_of_getElem? hx) with⟨a,rfl⟩ | h
 ·exact .inl (dU a Z Z Z)
 ·exact .inr ⟨h,h,by cases x<;>simp_all[JV,jZ]⟩
theorem yE{K:W.Frag}{H:Hp}{t u:Addr}{xs:List V}(e1:H t=some (.tup xs))(e2:H u=some (.tup xs))(hf:∀x∈xs,(∃a,x= .ref a)\/jZ x=true):GD K H (Am K H 0) t u true:=
 ⟨_,_,.inr (tR (.inr ⟨d7.of e1,d7.of e2⟩) Z (fun _=>true) (fun i x y hx hy=>eq_self hf i x y hx hy) (by simp))⟩
theorem pB{K:W.Frag}{H:Hp}{t u:Addr}{xs:List V}(e1:H t=some (.lst xs))(e2:H u=some (.lst xs))(hf:∀x∈xs,(∃a,x= .ref a)\/jZ x=true):GD K H (Am K H 0) t u true:=
 ⟨_,_,.inr (tR (.inl ⟨aP.of e1,aP.of e2⟩) Z (fun _=>true) (fun i x y hx hy=>eq_self hf i x y hx hy) (by simp))⟩
theorem pA{cs:List (C4)}:∀x∈(cs.map fun c=>V.ref c.1),(∃a,x= .ref a)\/jZ x=true:=fun x hx=>by refine aO (List.mem_map.mp hx) fun c _ e2_=>?_;subst e2_;exact .inl ⟨_,Z⟩
noncomputable def Ho:Sp:=fun vs H Q _=>∃n:Nat,vs=[.int (n:Int)]/\∀(t:Addr)(w h:Nat) H',aC H H'->H t=none->H' t=some (.tup [.int (w:Int),.int (h:Int)])->1<=w->w<=24->1<=h->h<=24->Q (.ref t) H'
noncomputable def Hy(K:W.Frag):Sp:=fun vs H Q _=>∃(a:Addr)(ns:List Int)(k m:Nat),vs=[.ref a,.int (k:Int),.int (m:Int)]/\aP K H a (ns.map V.int)/\k<=100/\1<=m/\m<=16/\∀p ps rows wd H',aC H H'->H p=none->oN H ps->bj H' p ps (ir rows)->Good rows wd->(∀r∈rows,∀c∈r,c<(m:Int))->Q (.ref p) H'
noncomputable def uF:Sp:=fun vs H Q _=>∃(a:Addr)(ps:List Addr)(R:List (List V)),vs=[.ref a]/\bj H a ps R/\R.length<=1000/\∀q qs H',aC H H'->H q=none->oN H qs->bj H' q qs R->Q (.ref q) H'
noncomputable def yG(K:W.Frag)(H:Hp)(R S:List (List V)):Prop:=R.length=S.length/\∀(i:Nat) r s,R[i]? =some r->S[i]? =some s->r.length=s.length/\∀(j:Nat) x y,r[j]? =some x->s[j]? =some y->Am K H 1 x y true
noncomputable def Nq(K:W.Frag):Sp:=fun vs H Q _=>∃(f d:Addr)(ps qs:List Addr)(R S:List (List V)),vs=[.ref f,.ref d]/\bj H f ps R/\bj H d qs S/\R.length<=1000/\yG K H R S/\∀H',aC H H'->Q (.bl true) H'
noncomputable def Jt:Sp:=fun vs H Q _=>∃(f d:Addr)(ps qs:List Addr)(R:List (List Int)),vs=[.ref f,.ref d]/\bj H f ps (ir R)/\bj H d qs (ir R)/\(∀p∈ps,p∉d::qs)/\R.length<=1000/\(∀r∈R,r.length<=1000)/\∀H',(∀b o,H b=some o->b∉ps->H' b=some o)->Q (.bl true) H'
theorem Mj{K:W.Frag}{H:Hp}{n:Nat}{x y:V}{b:Bool}(h:Am K H n x y b):Am K H (n+1) x y b:= .inl h
theorem mZ{K:W.Frag}{H:Hp}{f d:Addr}{ps qs:List Addr}{R S:List (List V)}(pf:bj H f ps R)(pd:bj H d qs S)(e:yG K H R S):GD K H (Am K H 2) f d true:=by
 have l1:=pf.len;have l2:=pd.len;have l3:=e.1;refine⟨_,_,.inr (tR (.inl ⟨aP.of pf.top,aP.of pd.top⟩) (by rw[List.length_map,List.length_map];omega) (fun _=>true) (fun i x y hx hy=>?_) (by simp))⟩;refine aO (getElem?_ref hx) fun p hp e2_=>?_;subst e2_;refine aO (getElem?_ref hy) fun q hq e2_=>?_;subst e2_;refine aO (pf.at hp) fun r hr er=>?_;refine aO (pd.at hq) fun s hs es=>?_;obtain⟨hl,hh⟩:=e.2 i r s hr hs;by_cases hpq:p=q
 ·subst hpq;exact .inl (.inl (.inl (dU p Z Z Z)))
 ·exact .inr (cR p q Z Z hpq (Qx _ _ (.inr (tR (.inl ⟨aP.of er,aP.of es⟩) hl (fun _=>true) (fun j x y hx hy=>hh j x y hx hy) (by simp)))))
theorem ig{K:W.Frag}{H:Hp}{R:List (List V)}(hf:∀r∈R,∀x∈r,(∃a,x= .ref a)\/jZ x=true):yG K H R R:=⟨Z,fun i r s hr hs=>by rw[hr] at hs;cases hs;exact⟨Z,fun j x y hx hy=>Mj (eq_self (hf r (List.mem_of_getElem? hr)) j x y hx hy)⟩⟩
theorem Ii{K:W.Frag}{H H':Hp}{rec rec':V->V->Bool->Prop}{p q:Addr}{b:Bool}(hr:∀x y b,rec x y b->rec' x y b)(e:GD K H rec p q b)(s:aC H H'):GD K H' rec' p q b:=by
 refine zb e fun xs ys h=>?_;refine⟨xs,ys,?_⟩;rcases h with⟨a,b',c,d⟩ | ⟨a,c,f,d,g⟩
 ·exact .inl (yU (s.seq a) (s.seq b') c d)
 ·refine .inr ⟨?_,c,f,fun i x y hx hy=>hr _ _ _ (d i x y hx hy),g⟩;rcases a with⟨a,b'⟩ | ⟨a,b'⟩
  ·exact .inl ⟨s.seq a,s.seq b'⟩
  ·exact .inr ⟨s.seqT a,s.seqT b'⟩
theorem uP{K:W.Frag}{H H':Hp}:∀{n:Nat}{x y:V}{b:Bool},Am K H n x y b->aC H H'->Am K H' n x y b
 | 0,_,_,_,h,_=>h
 | n+1,_,_,_,.inl h,s=> .inl (uP h s)
 | n+1,_,_,_,.inr ⟨p,q,e1,e2,ne,e⟩,s=> .inr ⟨p,q,e1,e2,ne,Ii (fun _ _ _ h=>uP h s) e s⟩
theorem lw{R:List (List Int)}:∀r∈ir R,∀x∈r,(∃a,x= .ref a)\/jZ x=true:=fun r hr x hx=>by refine aO (List.mem_map.mp hr) fun ns _ e2_=>?_;subst e2_;refine aO (List.mem_map.mp hx) fun n _ e2_=>?_;subst e2_;exact .inr Z
theorem jt{H1:Hp}{g:V->List V}{φ:List V->List V}(hg:∀q r,H1 q=some (.lst r)->g (.ref q)=φ r):∀(qs:List Addr)(R:List (List V)),Paired (fun p r=>H1 p=some (.lst r)) qs R->(qs.map V.ref).map g=R.map φ
 | [],[],_=>Z
 | [],_::_,h=>nomatch h
 | _::_,[],h=>nomatch h
 | q::qs,r::R,h=>by
  cases h with
  | cons e1 h2=>rw[List.map_cons,List.map_cons,List.map_cons,jt hg qs R h2,hg q r e1]
section
variable{P:Program}{w:World}{K:W.Frag}{mg:Str->Option Value}{base:Heap}{cFE cC cN cM cP cL cB cD cZ:Addr}{tP tS tC tI:Tok}
theorem Bo:aL ["_law_number"] ["_law_number"] (aA ql):=by walk_at "s"
theorem Ae{f:Addr}{fd:FuncData}(F:bf K "_law_size" "_law_size" ql .none f fd)(T:Txt K mg cFE cC cN cM cP cL cB cD cZ tP tS tC tI):bD P w K mg base gG 1 f fd ["_law_number"] (Ho):=by
 refine F.ok Bo (fun vs H Q E h=>?_) (fun cdv A outer s H vs Q E hr h=>?_)
 ·refine aO h fun n e1_ _=>?_;subst e1_;rfl
 ·refine aO h fun n e1_ k=>?_;subst e1_
  refine⟨_,(ao (bN (aW nC (aG bO (aG dq (pv 0) aq) aq) aq (aZ _)) (az (aN (bZ (aa (aG dw aq (aG bO (aG dq (pv 0) aq) aq)) (aa (aG dw aq (aG bO (pv 0) aq)) aj))))) aX)
    (ao (bN (aW nC (aG bO (aG dq (pv 0) aq) aq) aq (aZ _)) (az (aN (bZ (aa (aG dw aq (aG bO (pv 0) aq)) (aa (aG dw aq (aG bO (aG dq (pv 0) aq) aq)) aj))))) aX)
    (az (aN (bZ (aa (aG dw aq (aG bO (pv 0) aq)) (aa (aG dw aq (aG bO (aG dq (pv 0) aq) aq)) aj))))))),?_⟩
  have fin:∀(x y:Int)(w h:Nat),x=(w:Int)->y=(h:Int)->1<=w->w<=24->1<=h->h<=24->∀t,H t=none->Q (.ref t) (upd H t (.tup [.int x,.int y])):=fun x y w h e1 e2 a b c d t ht=>by subst e1;subst e2;exact k t w h _ (au ht) ht ak a b c d
  refine aM _ Z _ _ Z Z ⟨by decide,by decide⟩ (gJ _ _ Z Z (by show(0:Int)<8;decide) Z (fB _ Z (Gi (fun _=>?_) (fun _=>?_))))
  ·exact aM _ Z _ _ Z Z ⟨by decide,by decide⟩ (cR _ _ Z Z (by show(0:Int)<24;decide) (di _ _ Z Z (aM _ Z _ _ Z Z (by show(0:Int)<2;decide) (cR _ _ Z Z uw (fin _ _ (1+n / 288 % 24) (1+n % 2) (by omega) (by omega) (by omega) (by omega) (by omega) (by omega))))))
  refine aM _ Z _ _ Z Z ⟨by decide,by decide⟩ (gJ _ _ Z Z (by show(0:Int)<8;decide) Z (fB _ Z (Gi (fun _=>?_) (fun _=>?_))))
  ·exact aM _ Z _ _ Z Z (by show(0:Int)<2;decide) (di _ _ Z Z (aM _ Z _ _ Z Z ⟨by decide,by decide⟩ (cR _ _ Z Z (by show(0:Int)<24;decide) (cR _ _ Z Z uw (fin _ _ (1+n % 2) (1+n / 288 % 24) (by omega) (by omega) (by omega) (by omega) (by omega) (by omega))))))
  ·exact aM _ Z _ _ Z Z (by show(0:Int)<6;decide) (di _ _ Z Z (aM _ Z _ _ Z Z ⟨by decide,by decide⟩ (cR _ _ Z Z (by show(0:Int)<6;decide) (cR _ _ Z Z uw (fin _ _ (1+n % 6) (1+n / 6 % 6) (by omega) (by omega) (by omega) (by omega) (by omega) (by omega))))))
theorem wL:aL ["_law_rows"] ["_law_rows"] (aA m6):=by walk_at "s"
theorem wQ{f:Addr}{fd:FuncData}(F:bf K "_law_copied" "_law_copied" m6 .none f fd)(T:Txt K mg cFE cC cN cM cP cL cB cD cZ tP tS tC tI):bD P w K mg base gG 1 f fd ["_law_rows"] (uF):=by
 refine F.ok wL (fun vs H Q E h=>?_) (fun cdv A outer s H vs Q E hr h=>?_)
 ·refine pM h fun a ps R e3_ _=>?_;subst e3_;rfl
 ·refine jn h fun a ps R e3_ pic hl k=>?_;subst e3_;refine⟨_,(az (aN (bH (N:=["_law_row"]) (src:=[none]) Z ⟨Z,Z,Z,Z,Z,by decide+kernel⟩ (oY K Z (pv 0)) (fun s H C fp=>aJ (i:=0) (show(["_law_row"]:List Str).Nodup by decide+kernel) Z (.inl Z)) (fun s H C fp=>bF) (fun s H C fp=>(dh (sY K Z) Z T.list PyProof.Rows.boot_list (aa (pv 0) aj)))))),?_⟩;refine bc _ Z a Z ⟨_,aP.of pic.top⟩ fun D hD=>?_;refine jd (k:=0) (fun x=>(rowOf H x).getD []) (src_list (aP.of pic.top)) (by rw[List.length_map,pic.len];exact Nat.le_trans hl (by decide)) hD (fun x hx H' Q' sm kk=>?_) fun qs H2 s2 fq pv=>?_
  ·refine aO (List.mem_map.mp hx) fun q hq e2_=>?_;subst e2_;refine aO (pic.mem hq) fun r _ er=>?_;rw[aV er] at kk;exact bC _ Z q _ Z (.inl (aP.of (sm _ _ er))) fun l hl=>kk l _ (au hl) hl ak
  ·rw[jt (φ:=id) (fun q r e=>by rw[aV e];rfl) ps R pic.row,List.map_id] at pv;exact k D qs H2 s2 hD fq pv
theorem sG:aL ["_law_found","_law_due"] ["_law_found","_law_due"] (aA jB):=by walk_at "s"
theorem rO{f:Addr}{fd:FuncData}(F:bf K "_law_rows_good" "_law_rows_good" jB .none f fd)(T:Txt K mg cFE cC cN cM cP cL cB cD cZ tP tS tC tI):bD P w K mg base gG 1 f fd ["_law_found","_law_due"] (Nq K):=by
 refine F.ok sG (fun vs H Q E h=>?_) (fun cdv A outer s H vs Q E hr h=>?_)
 ·refine dZ h fun f d ps qs R S e6_ _=>?_;subst e6_;rfl
 ·refine dZ h fun f d ps qs R S e6_ p7_=>?_;subst e6_;obtain⟨pf,pd,hl,e,k⟩:=p7_;have hu:_+64<cLine:=hr.units
  refine⟨_,(ao (bN (PW.pt (jw (cW (bU (sO K Z (pv 0) Z T.isinstance Z T.list PyProof.Rows.boot_list))) (iG (cW (bU (aR (zc K Z Z) Z T.all PyProof.Rows.boot_all (aa (bH (N:=["_law_row"]) (src:=[none]) Z ⟨Z,Z,Z,Z,Z,by decide+kernel⟩ (oY K Z (pv 0)) (fun s H C fp=>aJ (i:=0) (show(["_law_row"]:List Str).Nodup by decide+kernel) Z (.inl Z)) (fun s H C fp=>bF) (fun s H C fp=>(sO K Z (pv 0) Z T.isinstance Z T.list PyProof.Rows.boot_list))) aj))))))) (az (aN fM)) aX)
    (az (aN (jH (Jc K Z hu) (pv 0) (pv 1) (aZ _))))),?_⟩
  refine bG _ Z true (je pf.top) _ Z ?_;refine bc _ Z f Z ⟨_,aP.of pf.top⟩ fun D hD=>?_;refine bR (k:=0) (fun _=> .bl true) (fun _=>true) (src_list (aP.of pf.top)) (by rw[List.length_map,pf.len];exact Nat.le_trans hl (by decide)) hD (fun x _ H' Qb _ kk=>kk H' (aC.refl _)) (fun x hx _ H' Q' sm kk=>?_) fun H2 s2 hD2=>?_
  ·refine aO (List.mem_map.mp hx) fun q hq e2_=>?_;subst e2_;refine aO (pf.mem hq) fun r _ er=>?_;exact bT _ Z true (je (sm _ _ er)) (kk H' (aC.refl _))
  have eD:H2 D=some (.lst (((ps.map V.ref).map fun _=>true).map V.bl)):=by rw[hD2,cU];simp only[List.map_map];rfl
  refine di D _ Z (aP.of eD) ?_;rw[ug];refine⟨_,Z,?_⟩;have e2:yG K H2 R S:=⟨e.1,fun i r s hr hs=>⟨(e.2 i r s hr hs).1,fun j x y hx hy=>uP ((e.2 i r s hr hs).2 j x y hx hy) s2⟩⟩;exact aH _ Z _ Z 2 f d true (by decide) Z Z (mZ (pf.mono s2) (pd.mono s2) e2) (k H2 s2)
end
theorem Ca{H:Hp}{a x:Addr}{ps:List Addr}{R:List (List V)}{o:HO}(p:bj H a ps R)(h1:x≠a)(h2:x∉ps):bj (upd H x o) a ps R:=
 ⟨by rw[aB h1.symm];exact p.top,Paired.mapI p.row fun q r hq e=>by rw[aB (fun z=>h2 (by rw[<-z];exact hq))];exact e,p.nd,p.out⟩
theorem Lj{H:Hp}{a x:Addr}{ps:List Addr}{R:List (List V)}{r:List V}(p:bj H a ps R)(h1:x≠a)(h2:x∉ps)(e:H x=some (.lst r)):bj (upd H a (.lst (ps.map V.ref++[.ref x]))) a (ps++[x]) (R++[r]):=by
 refine⟨by rw[ak,List.map_append];rfl,?_,?_,?_⟩
 ·refine Paired.app (Paired.mapI p.row fun q r hq e=>?_) (.cons (by rw[aB h1];exact e) .nil);rw[aB (fun z=>p.out (by rw[<-z];exact hq))];exact e
 ·refine List.nodup_append.mpr ⟨p.nd,by simp,fun u hu w hw=>?_⟩;rw[List.mem_singleton.mp hw];exact fun z=>h2 (by rw[<-z];exact hu)
 ·intro z;rcases List.mem_append.mp z with z | z
  ·exact p.out z
  ·exact h1 (List.mem_singleton.mp z).symm
section
variable{P:Program}{w:World}{K:W.Frag}{mg:Str->Option Value}{base:Heap}{cFE cC cN cM cP cL cB cD cZ:Addr}{tP tS tC tI:Tok}
theorem bK:aL ["_law_script","_law_first","_law_many","_law_number","_law_wide","_law_high","_law_found","_law_y","_law_row","_law_x","_law_more","_law_cell"] ["_law_script","_law_first","_law_many"] (aA lK):=by walk_at "s"
theorem vh{f:Addr}{fd:FuncData}(F:bf K "_law_picture" "_law_picture" lK .none f fd)(T:Txt K mg cFE cC cN cM cP cL cB cD cZ tP tS tC tI)(g__law_draw:jA P w K mg base 1 "_law_draw" ["_law_script","_law_k"] [] (zf K))(g__law_size:jA P w K mg base 1 "_law_size" ["_law_number"] [] (Ho)):bD P w K mg base gG 2 f fd ["_law_script","_law_first","_law_many"] (Hy K):=by
 refine F.ok bK (fun vs H Q E h=>?_) (fun cdv A outer s H vs Q E hr h=>?_)
 ·refine gn h fun a ns k m e4_ _=>?_;subst e4_;rfl
 ·refine dG h fun a ns fk m e4_ hS hk m1 p8_=>?_;subst e4_;obtain⟨m16,k⟩:=p8_
  refine⟨_,(ao (aK (i:=3) bK.nd Z (.inl Z) (aD g__law_draw (hr.mono (by decide)) Z (aa (pv 0) (aa (pv 1) aj))))
    (ao (BR (aD g__law_size (hr.mono (by decide)) Z (aa (aG dq (pv 3) aq) aj)) (yu Z (dI (aJ (i:=4) bK.nd Z (.inl Z)) (dI (aJ (i:=5) bK.nd Z (.inl Z)) o9))))
    (ao (aK (i:=6) bK.nd Z (.inl Z) (bW aj))
    (ao (gm PassesOwn.never Z (eE Z T.range (aa (pv 5) aj)) (aJ (i:=7) bK.nd Z (.inl Z)) (ao (aK (i:=8) bK.nd Z (.inl Z) (bW aj))
    (ao (gm PassesOwn.never Z (eE Z T.range (aa (pv 4) aj)) (aJ (i:=9) bK.nd Z (.inl Z)) (ao (aK (i:=10) bK.nd Z (.inl Z) (aD g__law_draw (hr.mono (by decide)) Z (aa (pv 0) (aa (aG dw (aG dw (aG dw (pv 1) aq) (aG qp (pv 7) (pv 4))) (pv 9)) aj))))
    (ao (aK (i:=11) bK.nd Z (.inl Z) (aG bO (aG dq (pv 10) aq) (pv 2)))
    (ao (bN (PW.pt (Dh (aW nC (aG bO (pv 3) aq) aq (aZ _)) (yo (aW rm (aG bO (pv 10) aq) aq (aZ _))))) (az (aK (i:=11) bK.nd Z (.inl Z) (bw (lJ K Z) (bW (aa (aG bO (aG dq (pv 3) aq) (pv 2)) (aa (aG bO (aG dq (pv 3) aq) (pv 2)) aj))) (aG bO (pv 10) aq) (fun _ _=>Z)))) aX)
    (az (bQ (ju PySem.F.plainAttrs_list PySem.F.slot_list_append PySem.F.type_list_append dg (pv 8) (aa (pv 11) aj))))))))
    (az (bQ (ju PySem.F.plainAttrs_list PySem.F.slot_list_append PySem.F.type_list_append dg (pv 6) (aa (pv 8) aj)))))))
    (az (aN (pv 6))))))),?_⟩
  refine fB _ Z (bz _ Z a ns fk Z hS (by omega) fun n H1 _ s1=>?_);refine aM _ Z _ _ Z Z ⟨by decide,by decide⟩ (fB (n / 2) ?_ fun t w h H2 s2 ht et w1 w24 h1 h24=>?_)
  ·show[V.int ((n:Int) / 2)]=_;rw[show(n:Int) / 2=((n / 2:Nat):Int) by omega]
  refine cR t _ Z (d7.of et) Z (mF _ _ Z (di _ _ Z Z ?_));have s12:=s1.trans s2;refine⟨Ol,fun fd' hfd=>?_⟩;have hfH:=s12.free hfd;have z3:=au (o:=HO.lst []) hfd;refine m8 _ Z (h:Int) Z (by omega) (by omega) ?_
  refine mC (lo:=0) (n:=h) (fun i σ H3=>aC H H3/\∃(ps:List Addr)(rows:List (List Int))(v7 v8 v9 v10 v11:Option V),σ=[some (.ref a),some (.int (fk:Int)),some (.int (m:Int)),some (.int (n:Int)),some (.int (w:Int)),some (.int (h:Int)),some (.ref fd'),v7,v8,v9,v10,v11]/\bj H3 fd' ps (ir rows)/\oN H ps/\rows.length=i/\∀r∈rows,r.length=w/\∀c∈r,0<=c/\c<(m:Int))
   ⟨s12.trans z3,gb [] [] none none none none (JP none Z ⟨ak,.nil,List.nodup_nil,by simp⟩ (fun q hq=>nomatch hq) Z fun r hr=>nomatch hr)⟩ ?_ ?_
  ·rintro y σ H3 hy ⟨s3,ps,rows,v7,v8,v9,v10,v11,rfl,pic,fps,hrl,hrows⟩;refine⟨Ol,fun rw hrw=>?_⟩;have hrwH:=s3.free hrw;have z4:=au (o:=HO.lst []) hrw;have hrf:rw≠fd':=(aF pic.top hrw).symm
   have hrp:rw∉ps:=fun z=>by refine aO (pic.mem z) fun r _ e=>?_;rw[hrw] at e;cases e
   refine m8 _ Z (w:Int) Z (by omega) (by omega) ?_
   refine mC (lo:=0) (n:=w) (fun i σ H5=>aC H H5/\∃(r:List Int)(v9 v10 v11:Option V),σ=[some (.ref a),some (.int (fk:Int)),some (.int (m:Int)),some (.int (n:Int)),some (.int (w:Int)),some (.int (h:Int)),some (.ref fd'),some (.int (0+(y:Int))),some (.ref rw),v9,v10,v11]/\H5 rw=some (.lst (r.map V.int))/\r.length=i/\(∀c∈r,0<=c/\c<(m:Int))/\bj H5 fd' ps (ir rows))
    ⟨s3.trans z4,aU [] v9 v10 v11 Z ak Z (fun c hc=>nomatch hc) (pic.mono z4)⟩ ?_ ?_
   ·rintro x σ H5 hx ⟨s5,r,v9,v10,v11,rfl,er,hl,hcs,pic⟩;have hyw:y * w<=23 * 24:=Nat.mul_le_mul (by omega) w24;have ek:(fk:Int)+1+(0+(y:Int)) * (w:Int)+(0+(x:Int))=((fk+1+y * w+x:Nat):Int):=by rw[Int.zero_add,Int.zero_add];push_cast;rfl
    refine bT _ Z _ Z (fZ _ _ Z Z _ Z (aM _ Z _ _ Z Z (.inl ⟨by omega,by omega⟩) (di _ _ Z Z (bC _ Z _ _ Z Z (uh a ns (fk+1+y * w+x) ?_ (s5.seq hS) (by omega) fun mr H6 _ s6=>?_)))))
    ·show[V.ref a,.int ((fk:Int)+1+(0+(y:Int)) * (w:Int)+(0+(x:Int)))]=_;rw[ek]
    have hm0:∀u:Int,0<=u % (m:Int)/\u % (m:Int)<(m:Int):=fun u=>⟨Int.emod_nonneg _ (by omega),Int.emod_lt_of_pos _ (by omega)⟩;refine aM _ Z _ _ Z Z ⟨by decide,by decide⟩ (aM _ Z _ _ Z Z (by show(0:Int)<(m:Int);omega) ?_);refine fB _ Z (gJ _ _ Z Z (by show(0:Int)<2;decide) Z (fB _ Z (Gi (fun _=>?_) (fun _=>?_))))
    ·refine aM _ Z _ _ Z Z (by show(0:Int)<8;decide) (fZ _ _ Z Z _ Z (nZ (fun _=>?_) (fun _=>?_)))
     ·refine aM _ Z _ _ Z Z ⟨by decide,by decide⟩ (aM _ Z _ _ Z Z (by show(0:Int)<(m:Int);omega) (aM _ Z _ _ Z Z ⟨by decide,by decide⟩ (fB _ Z (gJ _ _ Z Z (by show(0:Int)<(m:Int);omega) uw fun q hq=>?_))));have zq:=au (o:=HO.lst [V.int ((n:Int) / 4096 % (m:Int)),.int ((n:Int) / 65536 % (m:Int))]) hq;refine aO (yg (xs:=[V.int ((n:Int) / 4096 % (m:Int)),.int ((n:Int) / 65536 % (m:Int))]) (m:=(mr:Int)) 2 Z (by decide)) fun v hv ev=>?_
      obtain⟨cc,rfl,hcc⟩:∃cc:Int,v= .int cc/\0<=cc/\cc<(m:Int):=by
       simp only[List.mem_cons,List.not_mem_nil,or_false] at hv;rcases hv with rfl | rfl
       ·exact⟨_,Z,hm0 _⟩
       ·exact⟨_,Z,hm0 _⟩
      refine aM _ Z _ _ Z Z (by show(0:Int)<2;decide) (aU q _ _ _ Z Z (aP.of ak) ev ?_);have s7:=s6.trans zq;refine dz _ Z (.inl ⟨Z,_,aP.of (s7 _ _ er)⟩) _ Z (eH rw _ _ Z Z (s7 _ _ er) (Nat.lt_of_lt_of_le (by rw[List.length_map];omega:_<5000) (by decide)) ?_);refine⟨cz (s5.trans s7) hrwH,aU (r++[(cc:Int)]) _ _ _ Z (by rw[ak,List.map_append];rfl) (by rw[List.length_append,hl];rfl) (fun c hc=>?_) (Ca (pic.mono s7) hrf hrp)⟩;rcases List.mem_append.mp hc with hc | hc
      ·exact hcs c hc
      ·rw[List.mem_singleton.mp hc];exact hcc
     ·refine dz _ Z (.inl ⟨Z,_,aP.of (s6 _ _ er)⟩) _ Z (eH rw _ _ Z Z (s6 _ _ er) (Nat.lt_of_lt_of_le (by rw[List.length_map];omega:_<5000) (by decide)) ?_);refine⟨cz (s5.trans s6) hrwH,aU (r++[((mr:Int) / 8 % (m:Int):Int)]) _ _ _ Z (by rw[ak,List.map_append];rfl) (by rw[List.length_append,hl];rfl) (fun c hc=>?_) (Ca (pic.mono s6) hrf hrp)⟩;rcases List.mem_append.mp hc with hc | hc
      ·exact hcs c hc
      ·rw[List.mem_singleton.mp hc];exact hm0 _
    ·refine dz _ Z (.inl ⟨Z,_,aP.of (s6 _ _ er)⟩) _ Z (eH rw _ _ Z Z (s6 _ _ er) (Nat.lt_of_lt_of_le (by rw[List.length_map];omega:_<5000) (by decide)) ?_);refine⟨cz (s5.trans s6) hrwH,aU (r++[((mr:Int) / 8 % (m:Int):Int)]) _ _ _ Z (by rw[ak,List.map_append];rfl) (by rw[List.length_append,hl];rfl) (fun c hc=>?_) (Ca (pic.mono s6) hrf hrp)⟩;rcases List.mem_append.mp hc with hc | hc
     ·exact hcs c hc
     ·rw[List.mem_singleton.mp hc];exact hm0 _
   ·rintro σ H5 ⟨s5,r,v9,v10,v11,rfl,er,hl,hcs,pic⟩;refine dz _ Z (.inl ⟨Z,_,aP.of pic.top⟩) _ Z (eH fd' _ _ Z Z pic.top (Nat.lt_of_lt_of_le (by rw[List.length_map,pic.len,c7];omega:_<5000) (by decide)) ?_);refine⟨cz s5 hfH,gb (ps++[rw]) (rows++[r]) _ _ _ _ (JP _ Z ?_ (fun q hq=>?_) (by rw[List.length_append,hrl];rfl) fun r' hr'=>?_)⟩
    ·have:=Lj pic hrf hrp er;unfold ir at this⊢;rw[List.map_append];exact this
    ·rcases List.mem_append.mp hq with hq | hq
     ·exact fps q hq
     ·rw[List.mem_singleton.mp hq];exact hrwH
    ·rcases List.mem_append.mp hr' with hr' | hr'
     ·exact hrows r' hr'
     ·rw[List.mem_singleton.mp hr'];exact⟨hl,hcs⟩
  ·rintro σ H3 ⟨s3,ps,rows,v7,v8,v9,v10,v11,rfl,pic,fps,hrl,hrows⟩;exact⟨_,Z,k fd' ps rows w H3 s3 hfH fps pic ⟨by omega,by omega,w1,w24,fun r hr=>⟨(hrows r hr).1,fun c hc=>by have:=(hrows r hr).2 c hc;omega⟩⟩ (fun r hr c hc=>((hrows r hr).2 c hc).2)⟩
end
noncomputable def GC(R:List (List Int)):List (List Int):=R.map fun r=>r++[99]
theorem vZ{H:Hp}{f p:Addr}{ps:List Addr}{R:List (List Int)}{i:Nat}{r:List Int}(pic:bj H f ps (ir ((GC (R.take i))++R.drop i)))(hp:ps[i]? =some p)(hr:R[i]? =some r):H p=some (.lst (r.map V.int))/\bj (upd H p (.lst (r.map V.int++[.int 99]))) f ps (ir ((GC (R.take (i+1)))++R.drop (i+1))):=by
 have hi:i<R.length:=(List.getElem?_eq_some_iff.mp hr).1;have hl:(GC (R.take i)).length=i:=by unfold GC;rw[List.length_map,List.length_take];omega
 have hat:(ir ((GC (R.take i))++R.drop i))[i]? =some (r.map V.int):=by unfold ir;rw[List.getElem?_map,List.getElem?_append_right (by omega),hl,Nat.sub_self,List.getElem?_drop,Nat.add_zero,hr];rfl
 refine aO (pic.at hp) fun r' hr' e=>?_;rw[hat] at hr';cases hr';refine⟨e,?_⟩;have nf:p≠f:=fun z=>pic.out (by rw[<-z];exact List.mem_of_getElem? hp);refine⟨by rw[aB nf.symm];exact pic.top,?_,pic.nd,pic.out⟩
 have key:∀(ps:List Addr)(S T:List (List V))(i:Nat),Paired (fun q s=>H q=some (.lst s)) ps S->ps.Nodup->ps[i]? =some p->T.length=S.length->(∀j s,j≠i->S[j]? =some s->T[j]? =some s)->(∀s,T[i]? =some s->s=r.map V.int++[.int 99])->Paired (fun q s=>upd H p (.lst (r.map V.int++[.int 99])) q=some (.lst s)) ps T:=by
  intro ps;induction ps with
  | nil=>
   intro S T i h _ hp _ _ _;cases hp
  | cons q qs ih=>
   intro S T i h nd hp hl ho hi;cases h with
   | @cons _ s _ S' e1 h2=>
    cases T with
    | nil=>cases hl
    | cons t T'=>
     rw[List.nodup_cons] at nd;cases i with
     | zero=>
      cases hp;refine .cons (by rw[ak,hi t rfl]) ?_
      have:T'=S':=List.ext_getElem? fun j=>by
       rcases Nat.lt_or_ge j S'.length with q | q
       ·have:=ho (j+1) S'[j] (by omega) (by rw[List.getElem?_cons_succ];exact List.getElem?_eq_getElem q);rw[List.getElem?_cons_succ] at this;rw[this,List.getElem?_eq_getElem q]
       ·have hl':T'.length=S'.length:=by simpa using hl
        rw[List.getElem?_eq_none q,List.getElem?_eq_none (by omega)]
      rw[this];exact Paired.mapI h2 fun u s hu e=>by rw[aB (fun z=>nd.1 (by rw[<-z];exact hu))];exact e
     | succ i=>
      have hqs:qs[i]? =some p:=hp;have nq:q≠p:=fun z=>nd.1 (by rw[z];exact List.mem_of_getElem? hqs)
      have et:t=s:=by have:=ho 0 s (by omega) Z;injection this
      refine .cons (by rw[aB nq,et];exact e1) (ih S' T' i h2 nd.2 hqs (by simpa using hl) (fun j s hj hs=>?_) (fun s hs=>hi s hs));exact ho (j+1) s (by omega) hs
 refine key ps _ _ i pic.row pic.nd hp ?_ ?_ ?_
 ·unfold ir GC;simp only[List.length_map,List.length_append,List.length_take,List.length_drop];omega
 ·intro j s hj hs;unfold ir GC at hs⊢;rw[List.getElem?_map] at hs⊢;rw[<-hs]
  congr 1
  rcases Nat.lt_or_ge j i with q | q
  ·rw[List.getElem?_append_left (by simp;omega),List.getElem?_append_left (by simp;omega),List.getElem?_map,List.getElem?_map,List.getElem?_take_of_lt (by omega),List.getElem?_take_of_lt q]
  ·rw[List.getElem?_append_right (by simp;omega),List.getElem?_append_right (by simp;omega)];simp only[List.length_map,List.length_take,List.getElem?_drop]
   congr 1;omega
 ·intro s hs;unfold ir GC at hs;rw[List.getElem?_map,List.getElem?_append_left (by simp;omega),List.getElem?_map,List.getElem?_take_of_lt (by omega),hr] at hs;injection hs with hs
  rw[<-hs];show(r++[99]).map V.int=_;rw[List.map_append];rfl
section
variable{P:Program}{w:World}{K:W.Frag}{mg:Str->Option Value}{base:Heap}{cFE cC cN cM cP cL cB cD cZ:Addr}{tP tS tC tI:Tok}
theorem vH:aL ["_law_found","_law_due","_law_row"] ["_law_found","_law_due"] (aA sU):=by walk_at "s"
theorem Do{f:Addr}{fd:FuncData}(F:bf K "_law_own" "_law_own" sU .none f fd)(T:Txt K mg cFE cC cN cM cP cL cB cD cZ tP tS tC tI):bD P w K mg base gG 1 f fd ["_law_found","_law_due"] (Jt):=by
 refine F.ok vH (fun vs H Q E h=>?_) (fun cdv A outer s H vs Q E hr h=>?_)
 ·refine zb h fun f d p2_=>?_;obtain⟨ps,qs,R,rfl,_⟩:=p2_;rfl
 ·refine dJ h fun f d ps qs R e5_ pf pd dis hl hw k=>?_;subst e5_;have hu:_+64<cLine:=hr.units;have lf:ps.length=R.length:=by have:=pf.len;rw[c7] at this;exact this
  refine⟨_,(ao (gm PassesOwn.never Z (oY K Z (pv 0)) (aJ (i:=2) vH.nd Z (.inl Z)) (az (bQ (ju PySem.F.plainAttrs_list PySem.F.slot_list_append PySem.F.type_list_append dg (pv 2) (aa aq aj)))))
    (az (aN (jH (Jc K Z hu) (pv 0) (bH (N:=["_law_row"]) (src:=[none]) Z ⟨Z,Z,Z,Z,Z,by decide+kernel⟩ (oY K Z (pv 1)) (fun s H C fp=>aJ (i:=0) (show(["_law_row"]:List Str).Nodup by decide+kernel) Z (.inl Z)) (fun s H C fp=>bF) (fun s H C fp=>(aG lM (pv 0) (bW (aa aq aj))))) (aZ _))))),?_⟩
  refine bc _ Z f Z ⟨_,aP.of pf.top⟩ ?_;refine j7 (xs:=ps.map V.ref) (fun i σ H1=>(∀b o,H b=some o->b∉ps->H1 b=some o)/\bj H1 f ps (ir ((GC (R.take i))++R.drop i))/\∃v,σ=[some (.ref f),some (.ref d),v]) (JS (fun b o h _=>h) (by simpa[GC] using pf) ⟨none,Z⟩) (fun i σ H1 _ q=>aP.of q.2.1.top) ?_ ?_
  ·rintro i x σ H1 hx ⟨fr,pic,v,rfl⟩;refine aO (getElem?_ref hx) fun p hp e2_=>?_;subst e2_;have hi:i<R.length:=by rw[<-lf];exact(List.getElem?_eq_some_iff.mp hp).1
   obtain⟨e,pic'⟩:=vZ pic hp (List.getElem?_eq_getElem hi);refine dU _ Z (.inl ⟨Z,_,aP.of e⟩) (eH p _ _ Z Z e (Nat.lt_of_lt_of_le (by rw[List.length_map];have:=hw _ (List.getElem_mem hi);omega:_<5000) (by decide)) ?_);exact JS (fun b o hb hn=>by rw[aB (fun z=>hn (by rw[z];exact List.mem_of_getElem? hp))];exact fr b o hb hn) pic' ⟨_,Z⟩
  ·rintro σ H1 ⟨fr,pic,v,rfl⟩;rw[List.length_map,lf,List.take_length,List.drop_length,List.append_nil] at pic;have pd1:bj H1 d qs (ir R):=⟨fr _ _ pd.top (fun z=>dis d z List.mem_cons_self),Paired.mapI pd.row fun q r hq e=>fr _ _ e (fun z=>dis q z (List.mem_cons_of_mem _ hq)),pd.nd,pd.out⟩;refine fB _ Z (bc _ Z d Z ⟨_,aP.of pd1.top⟩ fun D hD=>?_);refine jd (k:=0) (fun x=>(rowOf H1 x).getD []++[.int 99]) (src_list (aP.of pd1.top)) (by rw[List.length_map,pd1.len,c7];exact Nat.le_trans hl (by decide)) hD (fun x hx H' Q' sm kk=>?_) fun us H2 s2 fq pv=>?_
   ·refine aO (List.mem_map.mp hx) fun q hq e2_=>?_;subst e2_;refine aO (pd1.mem hq) fun r hr' er=>?_;refine aO (List.mem_map.mp hr') fun ns hns e2_=>?_;subst e2_;rw[aV er] at kk;refine dU _ Z uC fun l1 h1=>?_;have z1:=au (o:=HO.lst [V.int 99]) h1;refine bx q l1 _ _ Z Z (z1 _ _ (sm _ _ er)) ak (Nat.le_trans (by show(ns.map V.int).length+1<=5000;rw[List.length_map];have:=hw ns hns;omega) (by decide)) fun l2 h2=>?_;exact kk l2 _ (z1.trans (au h2)) (z1.free h2) ak
   ·rw[jt (φ:=fun r=>r++[.int 99]) (fun q r e=>by rw[aV e];rfl) qs _ pd1.row] at pv;have e99:(ir R).map (fun r=>r++[V.int 99])=ir (GC R):=by unfold ir GC;rw[List.map_map,List.map_map];exact List.map_congr_left fun r _=>by simp
    rw[e99] at pv;exact aU 2 f D true (by decide) Z Z (mZ (pic.mono s2) pv (ig lw)) (k H2 (fun b o hb hn=>s2 _ _ (fr b o hb hn)))
end
theorem sV(xs:List V)(k:Nat):cH xs none (some (k:Int))=xs.take k:=by unfold cH;rw[HT.sIx_none,HT.sIx_nat,List.drop_zero,Nat.sub_zero];exact List.take_eq_take_iff.mpr (by omega)
theorem jV{xs:List V}{lo hi:Option Int}{y:V}(h:y∈cH xs lo hi):y∈xs:=List.mem_of_mem_drop (List.mem_of_mem_take h)
theorem N7(xs:List V)(k:Nat)(h:k<=xs.length):cH xs (some (k:Int)) none=xs.drop k:=by unfold cH;rw[HT.sIx_none,HT.sIx_nat,Nat.min_eq_left h];exact List.take_of_length_le (by rw[List.length_drop];omega)
theorem HQ{K:W.Frag}{H:Hp}{p:Addr}{xs:List V}{x y:V}(e:H p=some (.lst xs))(hl:xs.length<=1000)(hk:∀x∈xs,Rw K H x)(hx:x∈xs)(hy:y∈xs)(hne:lenOf H x≠lenOf H y):jy K H (.ref p):=by
 refine⟨(Th.lst e hl hk).1,?_⟩
 have:(xs.all fun x=>decide (lenOf H x=lenOf H (xs.headD .non)))=false:=by rw[Bool.eq_false_iff];intro z;rw[List.all_eq_true] at z;exact hne ((of_decide_eq_true (z x hx)).trans (of_decide_eq_true (z y hy)).symm)
 unfold mJ;rw[aV e];dsimp only;rw[this,Bool.and_false,Bool.and_false]
theorem Good.rw {K:W.Frag} {H:Hp} {a:Addr} {ps:List Addr} {rows:List (List Int)} {wd:Nat} (g:Good rows wd) (p:bj H a ps (ir rows)):∀x∈ps.map V.ref,Rw K H x:=fun x hx=>by refine aO (List.mem_map.mp hx) fun q hq e2_=>?_;subst e2_;refine kE (g.mem2 p hq) fun ns e hl hc _=>?_;exact Rw.lst e (by rw[List.length_map,hl];have:=g.w24;omega) jJ
theorem Lk{H:Hp}{q:Addr}{r:List V}{v:V}(e:H q=some (.lst r))(hv:v∈r)(hw:cQ 0 15 v=false):jM H (.ref q)=false:=by
 unfold jM;rw[aV e];dsimp only;unfold Be
 have:r.all (cQ 0 15)=false:=by rw[Bool.eq_false_iff];intro z;rw[List.all_eq_true] at z;rw[z v hv] at hw;cases hw
 rw[this,Bool.false_and]
theorem iI{H:Hp}{a:Addr}(o:HO)(h:H a=none):aC H (upd H a o)/\upd H a o a=some o:=⟨au h,ak⟩
theorem M3{n y:Nat}(h:y<n):Jh n (y:Int)=some y:=by
 unfold Jh;simp[h]
 try omega
noncomputable def Dv(K:W.Frag):Sp:=fun vs H Q _=>∃(a:Addr)(ps:List Addr)(rows:List (List Int))(wd:Nat)(od:V)(n:Nat),vs=[.ref a,od,.int (n:Int)]/\bj H a ps (ir rows)/\Good rows wd/\Kd K H od/\cQ 0 15 od=false/\∀v H',aC H H'->jy K H' v->Q v H'
section
variable{P:Program}{w:World}{K:W.Frag}{mg:Str->Option Value}{base:Heap}{cFE cC cN cM cP cL cB cD cZ:Addr}{tP tS tC tI:Tok}
theorem cI:aL ["_law_rows","_law_odd","_law_number","_law_y","_law_x","_law_spoilt","_law_longer","_law_some"] ["_law_rows","_law_odd","_law_number"] (aA cV):=by walk_at "s"
theorem qZ{f:Addr}{fd:FuncData}(F:bf K "_law_no_picture" "_law_no_picture" cV .none f fd)(T:Txt K mg cFE cC cN cM cP cL cB cD cZ tP tS tC tI)(g__law_copied:jA P w K mg base 1 "_law_copied" ["_law_rows"] [] (uF)):bD P w K mg base gG 2 f fd ["_law_rows","_law_odd","_law_number"] (Dv K):=by
 refine F.ok cI (fun vs H Q E h=>?_) (fun cdv A outer s H vs Q E hr h=>?_)
 ·refine dZ h fun a ps rows wd od n e6_ _=>?_;subst e6_;rfl
 ·refine dZ h fun a ps rows wd od n e6_ p7_=>?_;subst e6_;obtain⟨pic,gd,kod,wod,k⟩:=p7_;have hne:=gd.ne;have hle:=gd.le;have hw1:=gd.w1;have hw24:=gd.w24;have lp:(ps.map V.ref).length=rows.length:=by rw[List.length_map,pic.len,c7]
  have lir:(ir rows).length<=1000:=by rw[c7];omega
  obtain⟨y,ey,hy⟩:∃y:Nat,(n:Int) / 16 % (((ps.map V.ref).length:Nat):Int)=(y:Int)/\y<rows.length:=by rw[lp,show(n:Int) / 16=((n / 16:Nat):Int) by omega];exact⟨n / 16 % rows.length,by push_cast;rfl,Nat.mod_lt _ (by omega)⟩
  obtain⟨qy,hqy⟩:∃q,ps[y]? =some q:=⟨_,List.getElem?_eq_getElem (by rw[<-List.length_map (f:=V.ref),lp];exact hy)⟩;have mqy:=List.mem_of_getElem? hqy;refine kE (gd.mem2 pic mqy) fun rr er hrl hrc hrm=>?_;have lrr:(rr.map V.int).length=wd:=by rw[List.length_map,hrl]
  obtain⟨x,ex,hx⟩:∃x:Nat,(n:Int) / 512 % ((((rr.map V.int).length:Nat):Int)+1)=(x:Int)/\x<=wd:=by rw[lrr,show(n:Int) / 512=((n / 512:Nat):Int) by omega];exact⟨n / 512 % (wd+1),by push_cast;rfl,Nat.le_of_lt_succ (Nat.mod_lt _ (by omega))⟩
  have eqy:(ps.map V.ref)[y]? =some (.ref qy):=by rw[List.getElem?_map,hqy];rfl
  obtain⟨q0,hq0⟩:∃q,ps[0]? =some q:=⟨_,List.getElem?_eq_getElem (by rw[<-List.length_map (f:=V.ref),lp];omega)⟩;have mq0:=List.mem_of_getElem? hq0;refine kE (gd.mem2 pic mq0) fun r0 er0 hr0 hc0 hm0=>?_;have eq0:(ps.map V.ref)[0]? =some (.ref q0):=by rw[List.getElem?_map,hq0];rfl
  obtain⟨c00,hc00⟩:∃c,r0[0]? =some c:=⟨_,List.getElem?_eq_getElem (by omega)⟩
  obtain⟨t8,r8,k8⟩:∃tr,qz ((jx gG P w K mg base ["_law_rows","_law_odd","_law_number","_law_y","_law_x","_law_spoilt","_law_longer","_law_some"] "_law_no_picture" (aA cV) f cdv A outer s H E).nox) ((bJ cV).drop 8) tr/\
    ∀(v5 v6:Option V)(v3 v4:V)(L:Addr)(xs:List V)(H1:Hp),aC H H1->H1 L=some (.lst xs)->xs.length=14->zP K H1 xs->tr {nx:=fun _ H'=>Q .non H',rt:=Q} [some (.ref a),some od,some (.int (n:Int)),some v3,some v4,v5,v6,some (.ref L)] H1:=by
   refine⟨_,(az (aN (bw (lJ K Z) (pv 7) (aG bO (pv 2) aq) (fun _ _=>Z)))),?_⟩;intro v5 v6 v3 v4 L xs H1 s1 eL hl hb;refine aO (yg (xs:=xs) (m:=(n:Int)) 14 hl (by decide)) fun v hv ev=>?_;exact fB _ Z (aM _ Z _ _ Z Z (by show(0:Int)<14;decide) (aU L _ _ v Z Z (aP.of eL) ev (k v H1 s1 (hb v hv))))
  obtain⟨t6,r6,k6⟩:∃tr,qz ((jx gG P w K mg base ["_law_rows","_law_odd","_law_number","_law_y","_law_x","_law_spoilt","_law_longer","_law_some"] "_law_no_picture" (aA cV) f cdv A outer s H E).nox) ((bJ cV).drop 6) tr/\
    ∀(sp lg:Addr)(xs us:List V)(z:V)(H1:Hp),aC H H1->H1 sp=some (.lst xs)->xs.length=rows.length->(∀x∈xs,Rw K H1 x)->jy K H1 (.ref sp)->H1 lg=some (.lst us)->us.length<=24->(∀x∈us,Rw K H1 x)->z∈us->lenOf H1 z=wd+1->tr {nx:=fun _ H'=>Q .non H',rt:=Q} [some (.ref a),some od,some (.int (n:Int)),some (.int (y:Int)),some (.int (x:Int)),some (.ref sp),some (.ref lg),none] H1:=by
   refine⟨_,(ao (aK (i:=7) cI.nd Z (.inl Z) (zK.pe (En (dR (zK.mk (pv 5)) Ro (dR (zK.mk (pv 5)) Ro (dR (zK.mk (pv 5)) Ro (dR (zK.mk (aG lM (pv 6) (fX (Hg K Z) (aD g__law_copied (hr.mono (by decide)) Z (aa (pv 0) aj)) iM (iy aq)))) Ij (dR (zK.mk (bW aj)) Ep (dR (zK.mk zr) Sv (dR (zK.mk (dh gH Z T.tuple PyProof.Rows.boot_tuple (aa (pv 0) aj))) NK (dR (zK.mk (bW (aa (bZ aj) aj))) Ep (dR (zK.mk (bW (aa (bW aj) aj))) Ep (dR (zK.mk (bw (lJ K Z) (pv 0) aq (fun _ _=>Z))) Ox (dR (zK.mk Je) (fun _ _=>Z) Eb))))))))))))))
    (ao (aK (i:=7) cI.nd Z (.inl Z) (aG lM (pv 7) (zK.pe (En (dR (zK.mk (aG Dr (aD g__law_copied (hr.mono (by decide)) Z (aa (fX (Hg K Z) (pv 0) iM (iy aq)) aj)) aq)) Ij (dR (zK.mk (bW (aa (aG Dr (dh (sY K Z) Z T.list PyProof.Rows.boot_list (aa (fX (Hg K Z) (bw (lJ K Z) (pv 0) aq (fun _ _=>Z)) iM (iy aq)) aj)) aq) aj))) Ep (dR (zK.mk (aG lM (aG lM (fX (Hg K Z) (pv 5) iM (iy (pv 3))) (bW (aa (dh gH Z T.tuple PyProof.Rows.boot_tuple (aa (bw (lJ K Z) (pv 0) (pv 3) (fun _ _=>Z)) aj)) aj))) (fX (Hg K Z) (pv 5) (iy (aG dw (pv 3) aq)) iM))) Ij Eb)))))))
    (@r8))),?_⟩
   intro sp lg xs us z H1 sm esp hxl hxr bsp elg hul hur hz hzl;have pic:=pic.mono sm;have er:=sm _ _ er;have er0:=sm _ _ er0;have sm1:=aC.refl H1;refine fB _ Z (bG _ Z _ Z _ Z (bz _ Z a ps (ir rows) Z pic lir fun cq cqs Hc z_ fcq fcqs pcq=>?_));walk_at "w";clear z_;refine bC _ Z cq _ Z (aP.of pcq.top) fun s1 h_=>?_;obtain⟨z_,es1⟩:=iI (HO.lst (cH (cqs.map V.ref) none (some 1))) h_;generalize upd Hc s1 (HO.lst (cH (cqs.map V.ref) none (some 1)))=G1 at z_ es1⊢;have fs1:=sm.free h_;walk_at "w";clear z_ h_;have lc1:=ik (cqs.map V.ref) none (some 1);have lcq:(cqs.map V.ref).length=rows.length:=by rw[List.length_map,pcq.len,c7]
   refine bx lg s1 _ _ Z Z elg es1 (Nat.le_trans (by show us.length+(cH (cqs.map V.ref) none (some 1)).length<=5000;omega) (by decide)) fun e4 h_=>?_;obtain⟨z_,ee4⟩:=iI (HO.lst (us++(cH (cqs.map V.ref) none (some 1)))) h_;generalize upd G1 e4 (HO.lst (us++(cH (cqs.map V.ref) none (some 1))))=G2 at z_ ee4⊢;have fe4:=sm.free h_;walk_at "w";clear z_ h_
   have be4:jy K G2 (.ref e4):=by
    have ecut:(cH (cqs.map V.ref) none (some 1))=(cqs.map V.ref).take 1:=sV _ 1;obtain⟨w0,hw0⟩:∃q,cqs[0]? =some q:=⟨_,List.getElem?_eq_getElem (by rw[<-List.length_map (f:=V.ref),lcq];omega)⟩;refine kE (gd.mem2 pcq (List.mem_of_getElem? hw0)) fun ns0 en0 hn0 _ _=>?_;have mw:V.ref w0∈us++(cH (cqs.map V.ref) none (some 1)):=List.mem_append_right _ (by rw[ecut];exact List.mem_iff_getElem?.mpr ⟨0,by rw[List.getElem?_take_of_lt (by decide),List.getElem?_map,hw0];rfl⟩);refine HQ ee4 (by rw[List.length_append];omega) (fun x hx=>?_) (List.mem_append_left _ hz) mw (by rw[ni (hur z hz).kd sm1,hzl,rN en0,List.length_map,hn0];omega);rcases List.mem_append.mp hx with hx | hx
    ·exact(hur x hx).mono sm1
    ·exact gd.rw pcq x (jV hx)
   clear es1 ee4;refine⟨Ol,fun e5 h_=>?_⟩;obtain⟨z_,ee5⟩:=iI (HO.lst []) h_;generalize upd G2 e5 (HO.lst [])=G3 at z_ ee5⊢;have fe5:=sm.free h_;walk_at "w";clear z_ h_;refine fB _ Z (mF a _ Z (.inl ⟨aP.of pic.top,fun e7 h_=>?_⟩));obtain⟨z_,ee7⟩:=iI (HO.tup (ps.map V.ref)) h_;generalize upd G3 e7 (HO.tup (ps.map V.ref))=G4 at z_ ee7⊢;have fe7:=sm.free h_;walk_at "w";clear z_ h_;refine⟨Ol,fun i8 h_=>?_⟩;obtain⟨z_,ei8⟩:=iI (HO.tup []) h_;generalize upd G4 i8 (HO.tup [])=G5 at z_ ei8⊢;have fi8:=sm.free h_;walk_at "w";clear z_ h_;refine⟨uC,fun e8 h_=>?_⟩;obtain⟨z_,ee8⟩:=iI (HO.lst [V.ref i8]) h_;generalize upd G5 e8 (HO.lst [V.ref i8])=G6 at z_ ee8⊢;have fe8:=sm.free h_;walk_at "w";clear z_ h_;refine⟨Ol,fun i9 h_=>?_⟩;obtain⟨z_,ei9⟩:=iI (HO.lst []) h_;generalize upd G6 i9 (HO.lst [])=G7 at z_ ei9⊢;have fi9:=sm.free h_;walk_at "w";clear z_ h_;refine⟨uC,fun e9 h_=>?_⟩;obtain⟨z_,ee9⟩:=iI (HO.lst [V.ref i9]) h_;generalize upd G7 e9 (HO.lst [V.ref i9])=G8 at z_ ee9⊢;have fe9:=sm.free h_;walk_at "w";clear z_ h_;refine bh _ Z a _ _ _ Z Z (aP.of pic.top) (aQ (j:=0) eq0) ?_;refine fun e11 h_=>?_;obtain⟨z_,ee11⟩:=iI (my e11) h_;generalize upd G8 e11 (my e11)=G9 at z_ ee11⊢;have fe11:=sm.free h_;walk_at "w";clear z_ h_;refine⟨RB,fun L1 h_=>?_⟩;obtain⟨z_,eL1⟩:=iI (HO.lst [V.ref sp,.ref sp,.ref sp,.ref e4,.ref e5,.non,.ref e7,.ref e8,.ref e9,.ref q0,.ref e11]) h_;generalize upd G9 L1 (HO.lst [V.ref sp,.ref sp,.ref sp,.ref e4,.ref e5,.non,.ref e7,.ref e8,.ref e9,.ref q0,.ref e11])=G10 at z_ eL1⊢;have fL1:=sm.free h_;walk_at "w";clear z_ h_
   have b11:zP K G10 [V.ref sp,.ref sp,.ref sp,.ref e4,.ref e5,.non,.ref e7,.ref e8,.ref e9,.ref q0,.ref e11]:=fun v hv=>by
    simp only[List.mem_cons,List.not_mem_nil,or_false] at hv;rcases hv with rfl | rfl | rfl | rfl | rfl | rfl | rfl | rfl | rfl | rfl | rfl
    ·exact bsp
    ·exact bsp
    ·exact bsp
    ·exact be4
    ·exact Ek ee5 (by decide) (fun x hx=>nomatch hx) (by decide)
    ·exact vM .non Z
    ·exact vM (.tup ee7) (by simp only[rowOf,ee7])
    ·exact qJ ee8 (by show 1<=1000;decide) (fun x hx=>by rw[List.mem_singleton.mp hx];exact Rw.tup ei8) ⟨_,List.mem_cons_self,by unfold jM;simp only[rowOf,ei8]⟩
    ·exact Ex ee9 ei9 (by decide) (fun x hx=>nomatch hx) Z
    ·exact qJ er0 (by rw[List.length_map];omega) (fun x hx=>by obtain⟨c,_,rfl⟩:=List.mem_map.mp hx;exact Rw.flat Z) ⟨.int c00,List.mem_map.mpr ⟨c00,List.mem_of_getElem? hc00,Z⟩,Z⟩
    ·exact vM (.dict ee11) (CW ee11)
   clear be4 ee5 ee7 ei8 ee8 ei9 ee9 ee11 pcq elg;have epic:=pic.top;refine bT _ Z _ Z (bC _ Z a _ Z (aP.of epic) fun s2 h_=>?_);obtain⟨z_,es2⟩:=iI (HO.lst (cH (ps.map V.ref) none (some 1))) h_;generalize upd G10 s2 (HO.lst (cH (ps.map V.ref) none (some 1)))=G11 at z_ es2⊢;have fs2:=sm.free h_;walk_at "w";clear z_ h_
   have pic1:bj G11 s2 [q0] [r0.map V.int]:=by
    refine⟨?_,.cons er0 .nil,by simp,fun z=>?_⟩
    ·rw[es2,show cH (ps.map V.ref) none (some 1)=(ps.map V.ref).take 1 from sV _ 1]
     have:(ps.map V.ref).take 1=[V.ref q0]:=by
      cases ps with
      | nil=>cases hq0
      | cons p ps=>cases hq0;rfl
     rw[this];rfl
    ·rw[List.mem_singleton.mp z] at es2;rw[er0] at es2;have es2:r0.map V.int=cH (ps.map V.ref) none (some 1):=by injection es2 with q;injection q
     have m0:V.int c00∈cH (ps.map V.ref) none (some 1):=by rw[<-es2];exact List.mem_map.mpr ⟨c00,List.mem_of_getElem? hc00,Z⟩
     refine aO (List.mem_map.mp (jV m0)) fun _ _ e=>?_;cases e
   refine uh s2 [q0] [r0.map V.int] Z pic1 (by show 1<=1000;decide) fun c1 c1s Hd z_ fc1 fc1s pc1=>?_;clear es2 pic1;walk_at "w";clear z_
   obtain⟨d1,rfl⟩:∃d1,c1s=[d1]:=by
    have:=pc1.len
    match c1s,this with
    | [x],_=>exact⟨x,Z⟩
   have ec1:Hd c1=some (.lst [V.ref d1]):=pc1.top;have ed1:Hd d1=some (.lst (r0.map V.int)):=by cases pc1.row with | cons e _=>exact e
   refine nj c1 25 _ Z Z ec1 (by decide) (by decide) (by show 1 * 25<=sizeLine;decide) fun f1 h_=>?_;obtain⟨z_,ef1⟩:=iI (HO.lst ((List.replicate (25:Int).toNat [V.ref d1]).flatten)) h_;generalize upd Hd f1 (HO.lst ((List.replicate (25:Int).toNat [V.ref d1]).flatten))=G12 at z_ ef1⊢;have ff1:=sm.free h_;walk_at "w";clear z_ h_
   have bf1:jy K G12 (.ref f1):=Ek ef1 (by rw[Eh];show 25 * 1<=1000;decide) (fun x hx=>by refine aO (List.mem_flatten.mp hx) fun l hl hx=>?_;rw[List.eq_of_mem_replicate hl] at hx;rw[List.mem_singleton.mp hx];exact Rw.lst ed1 (by rw[List.length_map];omega) jJ) (by rw[Eh];rfl)
   clear ef1 ec1 ed1 pc1;refine bh _ Z a _ _ _ Z Z (aP.of epic) (aQ (j:=0) eq0) (bC _ Z q0 _ Z (aP.of er0) fun s3 h_=>?_);obtain⟨z_,es3⟩:=iI (HO.lst (cH (r0.map V.int) none (some 1))) h_;generalize upd G12 s3 (HO.lst (cH (r0.map V.int) none (some 1)))=G13 at z_ es3⊢;have fs3:=sm.free h_;walk_at "w";clear z_ h_;refine di s3 _ Z (.inl (aP.of es3)) fun l3 h_=>?_;obtain⟨z_,el3⟩:=iI (HO.lst (cH (r0.map V.int) none (some 1))) h_;generalize upd G13 l3 (HO.lst (cH (r0.map V.int) none (some 1)))=G14 at z_ el3⊢;have fl3:=sm.free h_;walk_at "w";clear z_ h_;have ln1:(cH (r0.map V.int) none (some 1)).length=1:=by rw[show cH (r0.map V.int) none (some 1)=(r0.map V.int).take 1 from sV _ 1,List.length_take,List.length_map];omega
   refine nj l3 25 _ Z Z el3 (by decide) (by decide) (by rw[ln1];decide) fun m3 h_=>?_;obtain⟨z_,em3⟩:=iI (HO.lst ((List.replicate (25:Int).toNat (cH (r0.map V.int) none (some 1))).flatten)) h_;generalize upd G14 m3 (HO.lst ((List.replicate (25:Int).toNat (cH (r0.map V.int) none (some 1))).flatten))=G15 at z_ em3⊢;have fm3:=sm.free h_;walk_at "w";clear z_ h_;refine⟨uC,fun f2 h_=>?_⟩;obtain⟨z_,ef2⟩:=iI (HO.lst [V.ref m3]) h_;generalize upd G15 f2 (HO.lst [V.ref m3])=G16 at z_ ef2⊢;have ff2:=sm.free h_;walk_at "w";clear z_ h_
   have bf2:jy K G16 (.ref f2):=Ex ef2 em3 (by rw[Eh,ln1];decide) (fun x hx=>by refine aO (List.mem_flatten.mp hx) fun l hl hx=>?_;rw[List.eq_of_mem_replicate hl] at hx;exact jJ x (jV hx)) (by unfold Be;rw[Eh,ln1];rw[show cQ 1 24 (.int ((25 * 1:Nat):Int))=false from rfl,Bool.and_false])
   clear es3 el3 em3 ef2;refine bT _ Z _ Z (bC _ Z sp _ Z (aP.of esp) fun t1 h_=>?_);obtain⟨z_,et1⟩:=iI (HO.lst (cH xs none (some (y:Int)))) h_;generalize upd G16 t1 (HO.lst (cH xs none (some (y:Int))))=G17 at z_ et1⊢;have ft1:=sm.free h_;walk_at "w";clear z_ h_;refine aH _ Z _ Z a _ _ _ Z Z (aP.of epic) (aQ (j:=y) eqy) (mF qy _ Z (.inl ⟨aP.of er,fun tr h_=>?_⟩));obtain⟨z_,etr⟩:=iI (HO.tup (rr.map V.int)) h_;generalize upd G17 tr (HO.tup (rr.map V.int))=G18 at z_ etr⊢;have ftr:=sm.free h_;walk_at "w";clear z_ h_;refine⟨uC,fun t2 h_=>?_⟩;obtain⟨z_,et2⟩:=iI (HO.lst [V.ref tr]) h_;generalize upd G18 t2 (HO.lst [V.ref tr])=G19 at z_ et2⊢;have ft2:=sm.free h_;walk_at "w";clear z_ h_;have lx1:=ik xs none (some (y:Int));have lx2:=ik xs (some ((y:Int)+1)) none;refine bx t1 t2 _ _ Z Z et1 et2 (Nat.le_trans (by show(cH xs none (some (y:Int))).length+1<=5000;omega) (by decide)) fun t3 h_=>?_;obtain⟨z_,et3⟩:=iI (HO.lst ((cH xs none (some (y:Int)))++[V.ref tr])) h_;generalize upd G19 t3 (HO.lst ((cH xs none (some (y:Int)))++[V.ref tr]))=G20 at z_ et3⊢;have ft3:=sm.free h_;walk_at "w";clear z_ h_;refine fB _ Z (bC _ Z _ _ Z Z (bC _ Z sp _ Z (aP.of esp) fun t4 h_=>?_));obtain⟨z_,et4⟩:=iI (HO.lst (cH xs (some ((y:Int)+1)) none)) h_;generalize upd G20 t4 (HO.lst (cH xs (some ((y:Int)+1)) none))=G21 at z_ et4⊢;have ft4:=sm.free h_;walk_at "w";clear z_ h_;refine bx t3 t4 _ _ Z Z et3 et4 (Nat.le_trans (by show((cH xs none (some (y:Int)))++[V.ref tr]).length+(cH xs (some ((y:Int)+1)) none).length<=5000;rw[List.length_append];show _+1+_<=_;omega) (by decide)) fun f3 h_=>?_;obtain⟨z_,ef3⟩:=iI (HO.lst (((cH xs none (some (y:Int)))++[V.ref tr])++(cH xs (some ((y:Int)+1)) none))) h_;generalize upd G21 f3 (HO.lst (((cH xs none (some (y:Int)))++[V.ref tr])++(cH xs (some ((y:Int)+1)) none)))=G22 at z_ ef3⊢;have ff3:=sm.free h_;walk_at "w";clear z_ h_
   have bf3:jy K G22 (.ref f3):=qJ ef3 (by rw[List.length_append,List.length_append];show _+1+_<=_;omega) (fun x hx=>by
    rcases List.mem_append.mp hx with hx | hx
    ·rcases List.mem_append.mp hx with hx | hx
     ·exact(hxr x (jV hx)).mono sm1
     ·rw[List.mem_singleton.mp hx];exact Rw.tup etr
    ·exact(hxr x (jV hx)).mono sm1) ⟨.ref tr,List.mem_append_left _ (List.mem_append_right _ List.mem_cons_self),by unfold jM;simp only[rowOf,etr]⟩
   clear et1 et2 et3 et4 etr ef3;refine⟨JQ,fun L2 h_=>?_⟩;obtain⟨z_,eL2⟩:=iI (HO.lst [V.ref f1,.ref f2,.ref f3]) h_;generalize upd G22 L2 (HO.lst [V.ref f1,.ref f2,.ref f3])=G23 at z_ eL2⊢;have fL2:=sm.free h_;walk_at "w";clear z_ h_;refine bx L1 L2 _ _ Z Z eL1 eL2 (by show 11+3<=sizeLine;decide) fun L3 h_=>?_;obtain⟨z_,eL3⟩:=iI (HO.lst ([V.ref sp,.ref sp,.ref sp,.ref e4,.ref e5,.non,.ref e7,.ref e8,.ref e9,.ref q0,.ref e11]++[V.ref f1,.ref f2,.ref f3])) h_;generalize upd G23 L3 (HO.lst ([V.ref sp,.ref sp,.ref sp,.ref e4,.ref e5,.non,.ref e7,.ref e8,.ref e9,.ref q0,.ref e11]++[V.ref f1,.ref f2,.ref f3]))=G24 at z_ eL3⊢;have fL3:=sm.free h_;walk_at "w";clear z_ h_
   exact k8 _ _ _ _ L3 _ _ sm eL3 Z (fun v hv=>by
    rcases List.mem_append.mp hv with hv | hv
    ·exact b11 v hv
    ·simp only[List.mem_cons,List.not_mem_nil,or_false] at hv;rcases hv with rfl | rfl | rfl
     ·exact bf1
     ·exact bf2
     ·exact bf3)
  refine⟨_,(ao (aK (i:=3) cI.nd Z (.inl Z) (aG bO (aG dq (pv 2) aq) (aR (nH K Z) Z T.len PySem.boot_len (aa (pv 0) aj))))
    (ao (aK (i:=4) cI.nd Z (.inl Z) (aG bO (aG dq (pv 2) aq) (aG dw (aR (nH K Z) Z T.len PySem.boot_len (aa (bw (lJ K Z) (pv 0) (pv 3) (fun _ _=>Z)) aj)) aq)))
    (ao (aK (i:=5) cI.nd Z (.inl Z) (aD g__law_copied (hr.mono (by decide)) Z (aa (pv 0) aj)))
    (ao (BR (aG lM (aG lM (fX (Hg K Z) (bw (lJ K Z) (pv 5) (pv 3) (fun _ _=>Z)) iM (iy (pv 4))) (bW (aa (pv 1) aj))) (fX (Hg K Z) (bw (lJ K Z) (pv 5) (pv 3) (fun _ _=>Z)) (iy (aG dw (pv 4) aq)) iM)) (Hf (pv 5) (pv 3) set_list))
    (ao (aK (i:=6) cI.nd Z (.inl Z) (aD g__law_copied (hr.mono (by decide)) Z (aa (pv 0) aj)))
    (ao (bQ (ju PySem.F.plainAttrs_list PySem.F.slot_list_append PySem.F.type_list_append dg (bw (lJ K Z) (pv 6) (pv 3) (fun _ _=>Z)) (aa (bw (lJ K Z) (bw (lJ K Z) (pv 0) aq (fun _ _=>Z)) aq (fun _ _=>Z)) aj)))
    (@r6))))))),?_⟩
  refine aM _ Z _ _ Z Z ⟨by decide,by decide⟩ (fB _ Z (du a _ Z (.inl (aP.of pic.top)) _ _ Z Z (by rw[lp];omega) ?_));show fK 3 (.int ((n:Int) / 16 % (((ps.map V.ref).length:Nat):Int))) _ _ _;rw[ey];refine aM _ Z _ _ Z Z ⟨by decide,by decide⟩ (aH _ Z _ Z a _ _ _ Z Z (aP.of pic.top) (aQ (j:=y) eqy) (di qy _ Z (.inl (aP.of er)) (du _ _ Z Z _ _ Z Z (by show(0:Int)<(((rr.map V.int).length:Nat):Int)+1;omega) ?_)));show fK 4 (.int ((n:Int) / 512 % ((((rr.map V.int).length:Nat):Int)+1))) _ _ _;rw[ex];refine bz _ Z a ps (ir rows) Z pic lir fun sp sps H1 s1 fsp fsps psp=>?_;obtain⟨sy,hsy⟩:∃q,sps[y]? =some q:=⟨_,List.getElem?_eq_getElem (by rw[psp.len,c7];exact hy)⟩
  have esy:H1 sy=some (.lst (rr.map V.int)):=by refine aO (psp.at hsy) fun r1 h1 e1=>?_;refine aO (pic.at hqy) fun r2 h2 e2=>?_;rw[h2] at h1;cases h1;rw[er] at e2;rw[e1];exact e2.symm
  have lsp:(sps.map V.ref).length=rows.length:=by rw[List.length_map,psp.len,c7]
  have eqs:(sps.map V.ref)[y]? =some (.ref sy):=by rw[List.getElem?_map,hsy];rfl
  have sm:=s1;have tsp:=psp.top;refine aH _ Z _ Z sp _ _ _ Z Z (aP.of tsp) (aQ (j:=y) eqs) (fB _ Z (bC _ Z sy _ Z (aP.of esy) fun u1 h_=>?_));obtain⟨z_,eu1⟩:=iI (HO.lst (cH (rr.map V.int) none (some (x:Int)))) h_;generalize upd H1 u1 (HO.lst (cH (rr.map V.int) none (some (x:Int))))=B1 at z_ eu1⊢;have fu1:=sm.free h_;walk_at "w";clear z_ h_;refine dU _ Z uC fun u2 h_=>?_;obtain⟨z_,eu2⟩:=iI (HO.lst [od]) h_;generalize upd B1 u2 (HO.lst [od])=B2 at z_ eu2⊢;have fu2:=sm.free h_;walk_at "w";clear z_ h_;have lk1:=ik (rr.map V.int) none (some (x:Int));have lk2:=ik (rr.map V.int) (some ((x:Int)+1)) none;refine bx u1 u2 _ _ Z Z eu1 eu2 (Nat.le_trans (by show(cH (rr.map V.int) none (some (x:Int))).length+1<=5000;omega) (by decide)) fun u3 h_=>?_;obtain⟨z_,eu3⟩:=iI (HO.lst ((cH (rr.map V.int) none (some (x:Int)))++[od])) h_;generalize upd B2 u3 (HO.lst ((cH (rr.map V.int) none (some (x:Int)))++[od]))=B3 at z_ eu3⊢;have fu3:=sm.free h_;walk_at "w";clear z_ h_;refine aH _ Z _ Z sp _ _ _ Z Z (aP.of tsp) (aQ (j:=y) eqs) (bC _ Z _ _ Z Z (bC _ Z sy _ Z (aP.of esy) fun u4 h_=>?_));obtain⟨z_,eu4⟩:=iI (HO.lst (cH (rr.map V.int) (some ((x:Int)+1)) none)) h_;generalize upd B3 u4 (HO.lst (cH (rr.map V.int) (some ((x:Int)+1)) none))=B4 at z_ eu4⊢;have fu4:=sm.free h_;walk_at "w";clear z_ h_;refine bx u3 u4 _ _ Z Z eu3 eu4 (Nat.le_trans (by show((cH (rr.map V.int) none (some (x:Int)))++[od]).length+(cH (rr.map V.int) (some ((x:Int)+1)) none).length<=5000;rw[List.length_append];show _+1+_<=_;omega) (by decide)) fun nr h_=>?_;have nspn:sp≠nr:=aF tsp h_;obtain⟨z_,enr⟩:=iI (HO.lst (((cH (rr.map V.int) none (some (x:Int)))++[od])++(cH (rr.map V.int) (some ((x:Int)+1)) none))) h_;generalize upd B4 nr (HO.lst (((cH (rr.map V.int) none (some (x:Int)))++[od])++(cH (rr.map V.int) (some ((x:Int)+1)) none)))=B5 at z_ enr⊢;have fnr:=sm.free h_;walk_at "w";clear z_ h_;refine aH _ Z _ Z sp _ _ y Z Z tsp (by rw[lsp];exact M3 hy) ?_
  dsimp only
  have nq:∀q∈sps,q≠sp:=fun q hq z=>psp.out (by rw[<-z];exact hq);have eX:upd B5 sp (.lst ((sps.map V.ref).set y (.ref nr))) sp=some (.lst ((sps.map V.ref).set y (.ref nr))):=ak;have enr6:upd B5 sp (.lst ((sps.map V.ref).set y (.ref nr))) nr=some (.lst (((cH (rr.map V.int) none (some (x:Int)))++[od])++(cH (rr.map V.int) (some ((x:Int)+1)) none))):=by rw[aB nspn.symm];exact enr
  have eq6:∀q∈sps,∃ns:List Int,upd B5 sp (.lst ((sps.map V.ref).set y (.ref nr))) q=some (.lst (ns.map V.int))/\ns.length=wd:=fun q hq=>by refine kE (gd.mem2 psp hq) fun ns e hl _ _=>?_;exact⟨ns,by rw[aB (nq q hq)];exact e,hl⟩
  have s6:aC H (upd B5 sp (.lst ((sps.map V.ref).set y (.ref nr)))):=cz sm fsp;generalize upd B5 sp (.lst ((sps.map V.ref).set y (.ref nr)))=H6 at eX enr6 eq6 s6⊢
  have rwX:∀v∈((sps.map V.ref).set y (.ref nr)),Rw K H6 v:=fun v hv=>by
   rcases List.mem_or_eq_of_mem_set hv with hv | rfl
   ·refine aO (List.mem_map.mp hv) fun q hq e2_=>?_;subst e2_;refine aO (eq6 q hq) fun ns e hl=>?_;exact Rw.lst e (by rw[List.length_map,hl];omega) jJ
   ·refine Rw.lst enr6 (by rw[List.length_append,List.length_append];show _+1+_<=_;omega) fun v hv=>?_;rcases List.mem_append.mp hv with hv | hv
    ·rcases List.mem_append.mp hv with hv | hv
     ·exact jJ v (jV hv)
     ·rw[List.mem_singleton.mp hv];exact kod.mono s6
    ·exact jJ v (jV hv)
  have lX:((sps.map V.ref).set y (.ref nr)).length=rows.length:=by rw[List.length_set,lsp]
  have bX:jy K H6 (.ref sp):=qJ eX (by rw[lX];omega) rwX ⟨.ref nr,List.mem_set (by rw[lsp];exact hy) _,Lk enr6 (List.mem_append_left _ (List.mem_append_right _ List.mem_cons_self)) wod⟩;refine bz _ Z a ps (ir rows) Z (pic.mono s6) lir fun lg lgs H7 s7 flg flgs plg=>?_;obtain⟨ly,hly⟩:∃q,lgs[y]? =some q:=⟨_,List.getElem?_eq_getElem (by rw[plg.len,c7];exact hy)⟩;have mly:=List.mem_of_getElem? hly
  have ely:H7 ly=some (.lst (rr.map V.int)):=by refine aO (plg.at hly) fun r1 h1 e1=>?_;refine aO (pic.at hqy) fun r2 h2 e2=>?_;rw[h2] at h1;cases h1;rw[er] at e2;rw[e1];exact e2.symm
  have llg:(lgs.map V.ref).length=rows.length:=by rw[List.length_map,plg.len,c7]
  have eql:(lgs.map V.ref)[y]? =some (.ref ly):=by rw[List.getElem?_map,hly];rfl
  have s07:=s6.trans s7;refine bT _ Z _ Z (bx lg _ _ _ Z Z (aP.of plg.top) (aQ (j:=y) eql) (.inl ⟨Z,_,aP.of ely⟩) (bh _ Z a _ _ _ Z Z (aP.of (s07 _ _ pic.top)) (aQ (j:=0) eq0) (aU q0 _ _ _ Z Z (aP.of (s07 _ _ er0)) (aQ (j:=0) (by rw[List.getElem?_map,hc00];rfl)) (eH ly _ _ Z Z ely (Nat.lt_of_lt_of_le (by rw[lrr];omega:_<5000) (by decide)) ?_))))
  dsimp only
  have fly:H6 ly=none:=flgs ly mly;have s8:aC H6 (upd H7 ly (.lst (rr.map V.int++[.int c00]))):=cz s7 fly;have nll:lg≠ly:=fun z=>plg.out (by rw[z];exact mly)
  have rwL:∀v∈lgs.map V.ref,Rw K (upd H7 ly (.lst (rr.map V.int++[.int c00]))) v:=fun v hv=>by
   refine aO (List.mem_map.mp hv) fun q hq e2_=>?_;subst e2_;by_cases hql:q=ly
   ·subst hql;refine Rw.lst ak (by rw[List.length_append,lrr];show _+1<=_;omega) fun v hv=>?_;rcases List.mem_append.mp hv with hv | hv
    ·exact jJ v hv
    ·rw[List.mem_singleton.mp hv];exact .int _
   ·refine kE (gd.mem2 plg hq) fun ns e hl _ _=>?_;exact Rw.lst (by rw[aB hql];exact e) (by rw[List.length_map,hl];omega) jJ
  exact k6 sp lg _ _ (.ref ly) _ (s6.trans s8) (s8 _ _ eX) lX (fun v hv=>(rwX v hv).mono s8) (bX.mono s8) (by rw[aB nll];exact plg.top) (by rw[llg];exact hle) rwL (List.mem_map.mpr ⟨ly,mly,Z⟩) (by rw[rN ak,List.length_append,lrr];rfl)
end
noncomputable def NT(H H':Hp):Prop:=∀b o,(∀ps,o≠ .tbl ps)->H b=some o->H' b=some o
section
variable{K:W.Frag}{H H':Hp}
theorem NT.lst {a:Addr} {xs:List V} (s:NT H H') (e:H a=some (.lst xs)):H' a=some (.lst xs):=s _ _ (fun _ z=>by cases z) e
theorem NT.tup {a:Addr} {xs:List V} (s:NT H H') (e:H a=some (.tup xs)):H' a=some (.tup xs):=s _ _ (fun _ z=>by cases z) e
theorem NT.sq {a:Addr} {xs:List V} (s:NT H H') (h:aP K H a xs):aP K H' a xs:=by
 rcases h with(h | ⟨o,h⟩) | h
 ·exact .inl (.inl (s.lst h))
 ·exact .inl (.inr ⟨o,s _ _ (fun _ z=>by cases z) h⟩)
 ·exact .inr h
theorem NT.pic {a:Addr} {ps:List Addr} {R:List (List V)} (s:NT H H') (p:bj H a ps R):bj H' a ps R:=⟨s.lst p.top,Paired.mapI p.row fun _ _ _ e=>s.lst e,p.nd,p.out⟩
end
theorem m7.keep {ts fq:List Addr} {p:Addr} {q:Str} {H H':Hp} (t:m7 ts p q H) (k:∀b o,H b=some o->b∉fq->H' b=some o) (hf:∀x∈fq,∃r,H x=some (.lst r)):m7 ts p q H':=by
 refine bL t fun ps e o kk=>?_;refine dU ps (k _ _ e fun z=>?_) o fun pos cv hq=>?_
 ·obtain⟨r,e2⟩:=hf _ z;rw[e] at e2;cases e2
 ·refine bL (kk pos cv hq) fun c e1 e2 e3=>?_;refine dU c e1 e2 (k _ _ e3 fun z=>?_);obtain⟨r,e4⟩:=hf _ z;rw[e3] at e4;unfold jU at e4;cases e4
noncomputable abbrev nQ:=List (Addr×Str)
noncomputable def gr(ms:nQ)(H:Hp):Prop:=∀m∈ms,m7 (ms.map (·.1)) m.1 m.2 H
section
variable{ms:nQ}{H H' H1 H2:Hp}
theorem gr.mono (g:gr ms H) (s:aC H H'):gr ms H':=fun m hm=>(g m hm).mono s
theorem gr.hts (g:gr ms H):∀t∈ms.map (·.1),H t≠none:=fun t ht=>by refine aO (List.mem_map.mp ht) fun m hm e2_=>?_;subst e2_;refine aO (g m hm) fun ps e _=>?_;rw[e];simp
theorem gr.nt (g:gr ms H) (b:qT (ms.map (·.1)) H H'):NT H H':=fun c o n e=>b c o (fun z=>by refine aO (List.mem_map.mp z) fun m hm e2_=>?_;subst e2_;refine aO (g m hm) fun ps e2 _=>?_;rw[e] at e2;cases e2;exact n ps Z) e
theorem gr.st {m:Addr×Str} (nd:∀a∈ms,∀b∈ms,a.1=b.1->a=b) (hm:m∈ms) (g:gr ms H) (b:qT (ms.map (·.1)) H H') (o:∀t∈ms.map (·.1),t≠m.1->H' t=H t) (t:m7 (ms.map (·.1)) m.1 m.2 H'):gr ms H':=fun m' hm'=>by
 by_cases e:m'.1=m.1
 ·have:=nd m' hm' m hm e;subst this;exact t
 ·exact(g m' hm').but (o m'.1 (List.mem_map_of_mem hm') e) fun c u n e=>b c u n e
theorem gr.keep {fq:List Addr} (g:gr ms H) (k:∀b o,H b=some o->b∉fq->H' b=some o) (hf:∀x∈fq,∃r,H x=some (.lst r)):gr ms H':=fun m hm=>m7.keep (g m hm) k hf
structure Ok(ms:nQ)(H H':Hp):Prop where
 but:qT (ms.map (·.1)) H H'
 tab:gr ms H'
theorem Ok.same (o:Ok ms H H1) (s:aC H1 H2):Ok ms H H2:=⟨o.but.trans (qT.of s),o.tab.mono s⟩
theorem Ok.trans (o:Ok ms H H1) (p:Ok ms H1 H2):Ok ms H H2:=⟨o.but.trans p.but,p.tab⟩
theorem Ok.refl (g:gr ms H):Ok ms H H:=⟨qT.of (aC.refl _),g⟩
theorem Ok.back (o:Ok ms H H1) {q:Addr} (h:H1 q=none):H q=none:=by
 cases e:H q with
 | none=>rfl
 | some u=>
  by_cases hz:q∈ms.map (·.1)
  ·exact absurd h (o.tab.hts q hz)
  ·rw[o.but q u hz e] at h;cases h
theorem Ok.mark {fq:List Addr} {F:Addr} {R:List (List V)} (o:Ok ms H H1) (p:bj H1 F fq R) (fr:∀q∈fq,H q=none) (k:∀b u,H1 b=some u->b∉fq->H2 b=some u):Ok ms H H2:=
 ⟨fun b u n e=>k b u (o.but b u n e) fun z=>(by have:=fr b z;rw[e] at this;cases this),o.tab.keep k fun x hx=>(by obtain⟨r,_,e⟩:=p.mem hx;exact⟨r,e⟩)⟩
theorem Ok.lam {m:Addr×Str} {H3:Hp} (nd:∀a∈ms,∀b∈ms,a.1=b.1->a=b) (hm:m∈ms) (o:Ok ms H H1) (b:qT (ms.map (·.1)) H1 H3) (ot:∀t∈ms.map (·.1),t≠m.1->H3 t=H1 t) (t:m7 (ms.map (·.1)) m.1 m.2 H3):Ok ms H H3:=⟨o.but.trans b,o.tab.st nd hm b ot t⟩
end
noncomputable abbrev qO:Str:=("ordered_picture"++".<locals>.")++"<lambda>"
noncomputable abbrev qL:Str:=("least_used"++".<locals>.")++"<lambda>"
noncomputable abbrev qN:Str:=("nearest_used"++".<locals>.")++"<lambda>"
theorem NT.col {H H':Hp} {a:Addr} {r g b:Nat} (s:NT H H') (c:jD H a r g b):jD H' a r g b:=⟨s.tup c.top,c.lr,c.lg,c.lb⟩
theorem NT.cols {H H':Hp} {a:Addr} {cs:List (C4)} (s:NT H H') (v:bA H a cs):bA H' a cs:=⟨s.lst v.1,fun c hc=>s.col (v.2 c hc)⟩
theorem NT.pal {cL:Addr} {H H':Hp} {p l:Addr} {cs:List (C4)} (s:NT H H') (v:fW cL H p l cs):fW cL H' p l cs:=by obtain⟨⟨dx,e⟩,c⟩:=v;exact⟨⟨dx,s _ _ (fun _ z=>by cases z) e⟩,s.cols c⟩
noncomputable def cn(rows:List (List Int))(c:Int):Nat:=rows.flatten.count c
noncomputable def cns(rows:List (List Int)):List Int:=(List.range 16).map fun(i:Nat)=>(cn rows (i:Int):Int)
theorem dY(rows:List (List Int)):(cns rows).length=16:=by unfold cns;simp
theorem Mq(rows:List (List Int)){c:Int}(h0:0<=c)(h1:c<=15):(cns rows)[c.toNat]? =some (cn rows c:Int):=by unfold cns;rw[List.getElem?_map,List.getElem?_range (by omega)];simp[Int.toNat_of_nonneg h0]
noncomputable def fj(cs:List Int):List Int:=((List.range cs.length).filter fun(i:Nat)=>decide (0<cs.getD i 0)).map fun(i:Nat)=>(i:Int)
theorem dW{cs:List Int}{c:Int}:c∈fj cs↔0<=c/\c.toNat<cs.length/\0<cs.getD c.toNat 0:=by
 unfold fj;constructor
 ·intro h;refine aO (List.mem_map.mp h) fun i hi e2_=>?_;subst e2_;obtain⟨h1,h2⟩:=List.mem_filter.mp hi;exact⟨by omega,by simpa using List.mem_range.mp h1,by simpa using h2⟩
 ·rintro⟨h0,h1,h2⟩;exact List.mem_map.mpr ⟨c.toNat,List.mem_filter.mpr ⟨List.mem_range.mpr h1,by simpa using h2⟩,by omega⟩
theorem lB(cs:List Int):(fj cs).Pairwise (·<·):=by unfold fj;rw[List.pairwise_map];refine List.Pairwise.imp ?_ (List.Pairwise.filter _ List.pairwise_lt_range);intro a b h;omega
theorem oG(cs:List Int):(fj cs).length<=cs.length:=by unfold fj;rw[List.length_map];exact Nat.le_trans (List.length_filter_le _ _) (by simp)
theorem Bf(rows:List (List Int)){c:Int}(h0:0<=c)(h1:c<=15):(cns rows).getD c.toNat 0=(cn rows c:Int):=by rw[List.getD_eq_getElem?_getD,Mq rows h0 h1];rfl
theorem gq{rows:List (List Int)}{c:Int}:c∈fj (cns rows)↔0<=c/\c<=15/\c∈rows.flatten:=by
 rw[dW,dY];constructor
 ·rintro⟨h0,h1,h2⟩;refine⟨h0,by omega,?_⟩;rw[Bf rows h0 (by omega)] at h2;exact List.count_pos_iff.mp (by unfold cn at h2;omega)
 ·rintro⟨h0,h1,h2⟩;refine⟨h0,by omega,?_⟩;rw[Bf rows h0 h1];have:0<cn rows c:=List.count_pos_iff.mpr h2;omega
noncomputable def chg(rows:List (List Int))(g h:Int):List (List Int):=rows.map fun r=>r.map fun c=>if c=g then h else c
theorem Good.chg {rows:List (List Int)} {wd:Nat} {g h:Int} (gd:Good rows wd) (h0:0<=h) (h1:h<=15):Good (chg rows g h) wd:=by
 refine⟨by unfold K19.chg;rw[List.length_map];exact gd.ne,by unfold K19.chg;rw[List.length_map];exact gd.le,gd.w1,gd.w24,fun r hr=>?_⟩;refine aO (List.mem_map.mp hr) fun r0 hr0 e2_=>?_;subst e2_;obtain⟨e1,e2⟩:=gd.row r0 hr0;refine⟨by rw[List.length_map];exact e1,fun c hc=>?_⟩;refine aO (List.mem_map.mp hc) fun c0 hc0 e2_=>?_;subst e2_
 split
 ·exact⟨h0,h1⟩
 ·exact e2 c0 hc0
noncomputable def Aw(K:W.Frag)(cB:Addr):Sp:=fun vs H Q E=>∃x,vs=[x]/\((∃a ps rows wd,x= .ref a/\bj H a ps (ir rows)/\Good rows wd/\∀p H',aC H H'->H p=none->H' p=some (.lst ((cns rows).map V.int))->Q (.ref p) H')\/(jy K H x/\∀H',aC H H'->E (.ref cB) none H'))
noncomputable def xf(K:W.Frag):Sp:=fun vs H Q _=>∃a cs,vs=[.ref a]/\H a=some (.lst (cs.map V.int))/\cs.length<=100/\∀p H',aC H H'->H p=none->H' p=some (.lst ((fj cs).map V.int))->Q (.ref p) H'
noncomputable def Mf(K:W.Frag):Sp:=fun vs H Q _=>∃a ps rows g h,vs=[.ref a,.int g,.int h]/\bj H a ps (ir rows)/\rows.length<=1000/\(∀r∈rows,r.length<=1000)/\∀q qs H',aC H H'->H q=none->oN H qs->bj H' q qs (ir (chg rows g h))->Q (.ref q) H'
section
variable{P:Program}{w:World}{K:W.Frag}{mg:Str->Option Value}{base:Heap}{cFE cC cN cM cP cL cB cD cZ:Addr}{tP tS tC tI:Tok}
theorem n6:aL ["picture","cells"] ["picture"] (aA lU):=by walk_at "s"
theorem vV{f:Addr}{fd:FuncData}(F:bf K "cell_counts" "cell_counts" lU .none f fd)(T:Txt K mg cFE cC cN cM cP cL cB cD cZ tP tS tC tI)(g_all_cells:DefX P w K mg base 8 "all_cells" ["picture"] [] (BJ K cB)):bD P w K mg base (kj P w) 9 f fd ["picture"] (Aw K cB):=by
 refine F.okX n6 (fun vs H Q E h=>?_) (fun cdv A outer s H vs Q E hr h=>?_)
 ·refine aO h fun x e1_ _=>?_;subst e1_;rfl
 ·obtain⟨x,rfl,h⟩:=h
  refine⟨_,(ao (aK (i:=1) n6.nd Z (by walk_at "o") (bB g_all_cells (hr.mono (by decide)) eV Z (aa (pv 0) aj)))
    (az (aN (bH (N:=["cell","cells"]) (src:=[none,some 1]) Z ⟨Z,Z,Z,Z,Z,by decide+kernel⟩ (eE Z T.range (aa (aG dw (bY (v:= .int 15) Z T.MOST_CELL ⟨_,Z⟩) aq) aj)) (fun s H C fp=>aJ (i:=0) (show(["cell","cells"]:List Str).Nodup by decide+kernel) Z (by walk_at "o")) (fun s H C fp=>bF) (fun s H C fp=>(Ci K Z PySem.F.plainAttrs_list PySem.F.slot_list_count PySem.F.type_list_count Ez (pv 1) (aa (pv 0) aj))))))),?_⟩
  rcases h with⟨a,ps,rows,wd,rfl,pic,gd,k⟩ | ⟨bad,k⟩
  ·refine bT _ Z _ Z (.inl (fV a ps rows wd Z pic gd fun p H1 s1 hp ep=>?_));refine di _ _ Z Z (kJ _ Z (by decide) (by decide) fun D hD=>?_);refine bR (k:=0) (fun v=>match v with | .int c=> .int (rows.flatten.count c:Nat) | _=> .non) (fun _=>true) (src_range (lo:=0) (n:=16)) (by simp;decide) hD (fun x _ H' Qb _ kk=>kk H' (aC.refl _)) (fun x hx _ H' Q' sm kk=>?_) fun H2 s2 hD2=>?_
   ·obtain⟨i,_,rfl⟩:=List.mem_map.mp hx;exact dU _ Z (.inl ⟨Z,_,aP.of (sm _ _ ep)⟩) (bz _ Z p _ _ Z Z (sm _ _ ep) (kk H' (aC.refl _)))
   ·refine k D H2 (s1.trans s2) (s1.free hD) ?_;rw[hD2,cU,List.map_map];unfold cns;rw[List.map_map];simp[Function.comp,cn]
  ·exact bT _ Z _ Z (.inr ⟨bad,k⟩)
theorem wO:aL ["counts"] ["counts"] (aA mK):=by walk_at "s"
theorem wD{f:Addr}{fd:FuncData}(F:bf K "used_cells" "used_cells" mK .none f fd)(T:Txt K mg cFE cC cN cM cP cL cB cD cZ tP tS tC tI):bD P w K mg base gG 1 f fd ["counts"] (xf K):=by
 refine F.ok wO (fun vs H Q E h=>?_) (fun cdv A outer s H vs Q E hr h=>?_)
 ·refine gP h fun a cs e2_ _=>?_;subst e2_;rfl
 ·refine jG h fun a cs e2_ e hl k=>?_;subst e2_;refine⟨_,(az (aN (bH (N:=["cell","many"]) (src:=[none,none]) Z ⟨Z,Z,Z,Z,Z,by decide+kernel⟩ (Ld Z T.enumerate (aa (pv 0) aj)) (fun s H C fp=>(Ed (n:=2) K Z Z (dI (aJ (i:=0) (show(["cell","many"]:List Str).Nodup by decide+kernel) Z (by walk_at "o")) (dI (aJ (i:=1) (show(["cell","many"]:List Str).Nodup by decide+kernel) Z (by walk_at "o")) o9)))) (fun s H C fp=>(kO (aW rm (pv 1) aq (aZ _)))) (fun s H C fp=>(pv 0))))),?_⟩;refine bc _ Z a Z ⟨_,aP.of e⟩ fun D hD=>?_;refine zV (k1:=0) (k2:=1) (fun p=>p.1) (fun p=>match p.2 with | .int m=>decide (0<m) | _=>false) (Gd (aP.of e)) (by rw[oX,List.length_map];exact Nat.le_trans hl (by decide)) hD (fun x hx H' Qb _ kk=>?_) (fun x hx _ H' Q' sm kk=>⟨_,Z,kk H' (aC.refl _)⟩) fun H1 s1 hD1=>?_
  ·obtain⟨i,hi⟩:=List.mem_iff_getElem?.mp hx;refine aO (qM hi) fun y e1 e2_=>?_;subst e2_;rw[List.getElem?_map] at e1;refine aO (Option.map_eq_some_iff.mp e1) fun m _ e2_=>?_;subst e2_;exact⟨_,Z,_,_,Z,Z,_,Z,kk H' (aC.refl _)⟩
  ·refine k D H1 s1 hD ?_;rw[hD1];unfold uK fj;rw[List.filter_map,List.map_map,List.map_map,List.length_map]
   congr 1
   congr 1
   have ee:(List.range cs.length).filter ((fun p:V×V=>match p.2 with | .int m=>decide (0<m) | _=>false)∘fun(i:Nat)=>(V.int (i:Int),(cs.map V.int).getD i .non))=(List.range cs.length).filter fun(i:Nat)=>decide (0<cs.getD i 0):=by
    refine List.filter_congr fun i hi=>?_;have hi':i<cs.length:=by simpa using hi
    simp[List.getD_eq_getElem?_getD,hi']
   rw[ee];rfl
theorem vR:aL ["rows"] ["rows"] (aA lQ):=by walk_at "s"
theorem u0{f:Addr}{fd:FuncData}(F:bf K "copied_rows" "copied_rows" lQ .none f fd)(T:Txt K mg cFE cC cN cM cP cL cB cD cZ tP tS tC tI):bD P w K mg base gG 1 f fd ["rows"] (uF):=by
 refine F.ok vR (fun vs H Q E h=>?_) (fun cdv A outer s H vs Q E hr h=>?_)
 ·refine pM h fun a ps R e3_ _=>?_;subst e3_;rfl
 ·refine jn h fun a ps R e3_ pic hl k=>?_;subst e3_;refine⟨_,(az (aN (bH (N:=["row"]) (src:=[none]) Z ⟨Z,Z,Z,Z,Z,by decide+kernel⟩ (oY K Z (pv 0)) (fun s H C fp=>aJ (i:=0) (show(["row"]:List Str).Nodup by decide+kernel) Z (.inl Z)) (fun s H C fp=>bF) (fun s H C fp=>(dh (sY K Z) Z T.list PyProof.Rows.boot_list (aa (pv 0) aj)))))),?_⟩;refine bc _ Z a Z ⟨_,aP.of pic.top⟩ fun D hD=>?_;refine jd (k:=0) (fun x=>(rowOf H x).getD []) (src_list (aP.of pic.top)) (by rw[List.length_map,pic.len];exact Nat.le_trans hl (by decide)) hD (fun x hx H' Q' sm kk=>?_) fun qs H2 s2 fq pv=>?_
  ·refine aO (List.mem_map.mp hx) fun q hq e2_=>?_;subst e2_;refine aO (pic.mem hq) fun r _ er=>?_;rw[aV er] at kk;exact bC _ Z q _ Z (.inl (aP.of (sm _ _ er))) fun l hl=>kk l _ (au hl) hl ak
  ·rw[jt (φ:=id) (fun q r e=>by rw[aV e];rfl) ps R pic.row,List.map_id] at pv;exact k D qs H2 s2 hD fq pv
theorem nJ:aL ["picture","old","new"] ["picture","old","new"] (aA fO):=by walk_at "s"
theorem nM{f:Addr}{fd:FuncData}(F:bf K "with_cells_changed" "with_cells_changed" fO .none f fd)(T:Txt K mg cFE cC cN cM cP cL cB cD cZ tP tS tC tI):bD P w K mg base gG 1 f fd ["picture","old","new"] (Mf K):=by
 refine F.ok nJ (fun vs H Q E h=>?_) (fun cdv A outer s H vs Q E hr h=>?_)
 ·refine zb h fun a ps p2_=>?_;obtain⟨rows,g,h',rfl,_⟩:=p2_;rfl
 ·refine zb h fun a ps p2_=>?_;obtain⟨rows,g,h',rfl,pic,hl,hr1,k⟩:=p2_;have hu:_+64<cLine:=hr.units;refine⟨_,(az (aN (bH (N:=["row","old","new"]) (src:=[none,some 1,some 2]) Z ⟨Z,Z,Z,Z,Z,by decide+kernel⟩ (oY K Z (pv 0)) (fun s H C fp=>aJ (i:=0) (show(["row","old","new"]:List Str).Nodup by decide+kernel) Z (by walk_at "o")) (fun s H C fp=>bF) (fun s H C fp=>(bH (N:=["cell","old","new"]) (src:=[none,some 1,some 2]) Z ⟨Z,Z,Z,Z,Z,by decide+kernel⟩ (oY K Z (pv 0)) (fun s H C fp=>aJ (i:=0) (show(["cell","old","new"]:List Str).Nodup by decide+kernel) Z (by walk_at "o")) (fun s H C fp=>bF) (fun s H C fp=>(vD (aW nC (pv 0) (pv 1) (aZ _)) (pv 2) (pv 0)))))))),?_⟩;refine bc _ Z a Z ⟨_,aP.of pic.top⟩ fun D hD=>?_;have hlen:=pic.row.length;rw[c7] at hlen;refine jd (k:=0) (fun x=>match rowOf H x with | some r=>r.map fun v=>if v= .int g then V.int h' else v | none=>[]) (src_list (aP.of pic.top)) (by rw[List.length_map,hlen];exact Nat.le_trans hl (by decide)) hD (fun x hx H1 Q1 s1 kk=>?_) fun qs H1 s1 fr pq=>?_
  ·refine aO (List.mem_map.mp hx) fun q hq e2_=>?_;subst e2_;obtain⟨i,hi⟩:=List.getElem?_of_mem hq;refine aO (pic.at hi) fun r hr' eq=>?_;unfold ir at hr';rw[List.getElem?_map] at hr';refine aO (Option.map_eq_some_iff.mp hr') fun r0 hr0 e2_=>?_;subst e2_;have eq1:=s1 _ _ eq;refine bc _ Z q Z ⟨_,aP.of eq1⟩ fun D1 hD1=>?_;refine bR (k:=0) (fun v=>if v= .int g then V.int h' else v) (fun _=>true) (src_list (aP.of eq1)) (by rw[List.length_map];exact Nat.le_trans (hr1 r0 (List.mem_of_getElem? hr0)) (by decide)) hD1 (fun x _ H' Qb _ kk=>kk H' (aC.refl _)) (fun x hx _ H2 Q2 s2 k2=>?_) fun H2 s2 hD2=>?_
   ·refine aO (List.mem_map.mp hx) fun c _ e2_=>?_;subst e2_;have tt:=k2 H2 (aC.refl _);refine fB _ Z (dz _ Z Z _ Z ?_);refine nZ (fun h=>⟨_,Z,?_⟩) (fun h=>⟨_,Z,?_⟩)
    ·rw[if_pos (of_decide_eq_true h)] at tt;exact tt
    ·rw[if_neg (of_decide_eq_false h)] at tt;exact tt
   ·refine kk D1 H2 s2 hD1 ?_;rw[hD2,cU];rw[aV eq]
  ·refine k D qs H1 s1 hD fr ?_
   have e3:(ps.map V.ref).map (fun x=>match rowOf H x with | some r=>r.map fun v=>if v= .int g then V.int h' else v | none=>[])=ir (chg rows g h'):=by
    rw[jt (φ:=fun r=>r.map fun v=>if v= .int g then V.int h' else v) (fun q r e=>by rw[aV e]) ps _ pic.row];unfold ir chg;rw[List.map_map,List.map_map];refine List.map_congr_left fun r _=>?_;simp only[Function.comp,List.map_map];refine List.map_congr_left fun c _=>?_;simp only[Function.comp,V.int.injEq]
    split<;>rfl
   rw[e3] at pq;exact pq
end
noncomputable def Cr:Expr->Option Arguments
 | .Lambda p _ _ _=>some p
 | _=>none
noncomputable def yj:Expr->Expr
 | .Lambda _ b _ _=>b
 | e=>e
noncomputable def GX(d:Scope):Expr->Scope
 | .Lambda _ _ s _=>s
 | _=>d
noncomputable def keyOf:Expr->Expr
 | .Call _ _ (⟨_,v,_⟩::_) _=>v
 | e=>e
noncomputable def NP:Stmt->Expr
 | .Assign _ e _=>e
 | .Return (some e) _=>e
 | _=> .Name "" ⟨0,0,0,0⟩
noncomputable def Mw(st:Stmt)(i:Nat):Stmt:=(bJ st).getD i (.Pass ⟨0,0,0,0⟩)
noncomputable abbrev ND(ms:nQ):Prop:=∀a∈ms,∀b∈ms,a.1=b.1->a=b
theorem uZ{a b c d:Int}:HT.lexLt [a,b] [c,d]=false↔(c<a\/(c=a/\d<=b)):=by
 rw[HT.lexLt_cons,HT.lexLt_cons,HT.lexLt_nil_nil]
 split
 ·split
  ·simp;omega
  ·simp;omega
 ·simp;omega
theorem CJ{n:Nat}{bt:Nat->Nat->Bool}(tr:∀i j k,bt i j=false->bt j k=false->bt i k=false)(hi:∀i,bt i i=false)(as:∀i j,bt i j=true->bt j i=false):∀m,∀j,j<=m->bt j (argBest bt m)=false:=by
 intro m;induction m with
 | zero=>
  intro j hj;obtain rfl:j=0:=by omega
  exact hi 0
 | succ m ih=>
  intro j hj;show bt j (if bt (m+1) (argBest bt m) then m+1 else argBest bt m)=false;cases hb:bt (m+1) (argBest bt m) with
  | true=>
   rw[if_pos rfl];by_cases e:j=m+1
   ·rw[e];exact hi _
   ·exact tr _ _ _ (ih j (by omega)) (as _ _ hb)
  | false=>
   rw[if_neg (by simp)];by_cases e:j=m+1
   ·rw[e];exact hb
   ·exact ih j (by omega)
theorem Et{ka kb:Int->Int}{ns:List Int}(ne:ns≠[]):Bs ka kb ns∈ns/\∀c∈ns,ka (Bs ka kb ns)<ka c\/(ka (Bs ka kb ns)=ka c/\kb (Bs ka kb ns)<=kb c):=by
 have hl:0<ns.length:=List.length_pos_iff.mpr ne;have hle:=mG (tX ka kb ns) (ns.length - 1);have hlt:argBest (tX ka kb ns) (ns.length - 1)<ns.length:=by omega
 refine⟨?_,fun c hc=>?_⟩
 ·unfold Bs;rw[List.getD_eq_getElem?_getD,List.getElem?_eq_getElem hlt];exact List.getElem_mem hlt
 ·obtain⟨j,hj,rfl⟩:=List.getElem_of_mem hc;have q:=CJ (n:=ns.length) (bt:=tX ka kb ns) (fun i j k h1 h2=>?_) (fun i=>?_) (fun i j h=>?_) (ns.length - 1) j (by omega)
  ·unfold tX at q;rw[uZ] at q;have e:ns.getD j 0=ns[j]:=by rw[List.getD_eq_getElem?_getD,List.getElem?_eq_getElem hj];rfl
   rw[e] at q;exact q
  ·unfold tX at h1 h2⊢;rw[uZ] at h1 h2⊢;omega
  ·unfold tX;rw[uZ];omega
  ·unfold tX at h⊢;rw[uZ];cases hq:HT.lexLt [ka (ns.getD i 0),kb (ns.getD i 0)] [ka (ns.getD j 0),kb (ns.getD j 0)] with
   | false=>rw[hq] at h;cases h
   | true=>
    have:¬(HT.lexLt [ka (ns.getD i 0),kb (ns.getD i 0)] [ka (ns.getD j 0),kb (ns.getD j 0)]=false):=by rw[hq];simp
    rw[uZ] at this;omega
noncomputable def yd(cs:List Int)(g:Int):Prop:=g∈fj cs/\∀c∈fj cs,cs.getD g.toNat 0<cs.getD c.toNat 0\/(cs.getD g.toNat 0=cs.getD c.toNat 0/\c<=g)
theorem yd.uniq {cs:List Int} {g h:Int} (a:yd cs g) (b:yd cs h):g=h:=by have h1:=a.2 h b.1;have h2:=b.2 g a.1;omega
theorem jh{cs:List Int}{i:Int}(h0:0<=i)(h1:i.toNat<cs.length):GJ (cs.map V.int) i=some (.int (cs.getD i.toNat 0)):=by
 obtain⟨n,rfl⟩:∃n:Nat,i=(n:Int):=⟨i.toNat,by omega⟩;refine aQ (j:=n) ?_;have h2:n<cs.length:=by simpa using h1
 rw[List.getElem?_map,List.getElem?_eq_getElem h2];simp[List.getD_eq_getElem?_getD,h2]
noncomputable def lL:Expr:=keyOf (NP (Mw gf 0))
noncomputable def Pa:Scope:=GX (aA gf) lL
theorem Ss:Ea ["counts"] Pa:=⟨Z,Z,Z,by decide+kernel,by decide+kernel⟩
theorem SX:Pa.names.lookup ("cell":Str)=some NameKind.local:=by decide+kernel
theorem R7:∀y∈Pa.names,y.2=NameKind.free->(aA gf).names.lookup y.1=some .cell:=by decide+kernel
noncomputable def Eg(K:W.Frag)(ms:nQ):Sp:=fun vs H Q _=>∃a cs,vs=[.ref a]/\H a=some (.lst (cs.map V.int))/\cs.length<=60/\fj cs≠[]/\gr ms H/\∀g H',Ok ms H H'->yd cs g->Q (.int g) H'
section
variable{P:Program}{w:World}{K:W.Frag}{mg:Str->Option Value}{base:Heap}{cFE cC cN cM cP cL cB cD cZ:Addr}{tP tS tC tI:Tok}
theorem RQ{prm:Arguments}(hp:Cr lL=some prm){f c a:Addr}{cl:List (Str×Addr)}{cs:List Int}(hhas:∀x,Pa.names.lookup x=some .free->∃c,cl.lookup x=some c)(hce:qY base ["counts"] cl [some (.ref a)]):
  wz P w K mg base 1 f (fun v H Q=>H f=some (mD f ⟨prm,yj lL,Pa,qL,cl,.none,c⟩)/\H c=some (jU c qL)/\∃i:Int,v= .int i/\H a=some (.lst (cs.map V.int))/\0<=i/\i.toNat<cs.length/\∀t,H t=none->Q (.ref t) (upd H t (.tup [.int (cs.getD i.toNat 0),.int (-i)]))):=by
 cases hp;refine yI (k:=0) (x:="cell") Ss SX hhas hce (fun v H Q h=>⟨h.1,h.2.1⟩) (fun _ _ _ _=>Z) fun A outer s H v Q hr h=>?_;refine wj h fun _ _ p2_=>?_;obtain⟨i,rfl,e,h0,h1,k⟩:=p2_;refine⟨_,(bZ (aa (bw (lJ K Z) (pv 1) (pv 0) (fun _ _=>Z)) (aa (xP rT (pv 0)) aj))),?_⟩;refine⟨_,Z,_,Z,a,_,i,.int (cs.getD i.toNat 0),Z,Z,aP.of e,jh h0 h1,_,Z,i,Z,uw,fun t ht=>k t ht⟩
theorem wA:aL ["counts"] ["counts"] (aA gf):=by walk_at "s"
theorem wW{f c p:Addr}{fd:FuncData}(F:bf K "least_used" "least_used" gf .none f fd)(hc:fd.code= .ref c)(hC:W.CodeHd base c p)(hB:BMain mg base){ms:nQ}(nd:ND ms)(hm:(p,qL)∈ms)(T:Txt K mg cFE cC cN cM cP cL cB cD cZ tP tS tC tI)(g_used_cells:jA P w K mg base 1 "used_cells" ["counts"] [] (xf K)):bD P w K mg base gG 3 f fd ["counts"] (Eg K ms):=by
 refine F.okT hc wA (fun vs H Q E h=>?_) (fun cdv hcdv A outer s H vs Q E hr h=>?_)
 ·refine gP h fun a cs e2_ _=>?_;subst e2_;rfl
 ·refine oM h fun a cs e2_ e hl ne tab k=>?_;subst e2_;refine⟨_,(az (aN (rR (xK (k:=1) hr Z hB (by intro;rfl)) Z T.min PyProof.Rows.boot_min (aa (aD g_used_cells (hr.mono (by decide)) Z (aa (pv 0) aj)) aj) (zE hcdv hC hB (iw.of R7))))),?_⟩
  dsimp only[CT,Oc,J7,iY,Er]
  refine aM _ Z a cs Z e (Nat.le_trans hl (by decide)) fun q H1 s1 hq eq=>?_;have tab1:=tab.mono s1
  dsimp only[nU]
  refine uG (ts:=ms.map (·.1)) (List.mem_map_of_mem hm) tab1.hts (tab1 (p,qL) hm) fun f1 c1 H2 bt ot tb hf1 hc1=>?_;have nt:=tab1.nt bt;have ok2:Ok ms H H2:=((Ok.refl tab).same s1).lam nd hm bt ot tb;refine⟨q,f1,fj cs,fun c=>cs.getD c.toNat 0,fun c=> -c,fun H3=>aC H2 H3,_,Z,Z,ne,aC.refl _,fun H3 s3=>s3 _ _ (nt.lst eq),fun base' ok cap=>RQ (cs:=cs) (a:=a) (c:=c1) Z rQ (uE cap (iw.of R7) Z fun i x y e1 e2=>?_),fun n hn H3 Q' s3 kk=>⟨s3 _ _ hf1,s3 _ _ hc1,n,Z,s3 _ _ (nt.lst (s1 _ _ e)),(dW.mp hn).1,(dW.mp hn).2.1,fun t ht=>kk t _ (s3.trans (au ht)) (fun b xs eb=>au ht _ _ eb) ak⟩,fun H3 s3=>k _ H3 (ok2.same s3) ?_⟩
  ·match i,e1,e2 with
   | 0,e1,e2=>cases e1;cases e2;exact⟨by decide+kernel,Z,0,Z,Z⟩
   | i+1,e1,e2=>cases e1
  ·have m:=Et (ka:=fun c=>cs.getD c.toNat 0) (kb:=fun c=> -c) ne;refine⟨m.1,fun c hc=>?_⟩;have:=m.2 c hc;omega
end
theorem vW(x y:Nat):zJ x y=zJ y x:=by
 unfold zJ;have:(x:Int) - (y:Int)= -((y:Int) - (x:Int)):=by omega
 rw[this,Int.pow_succ,Int.pow_succ,Int.pow_succ,Int.pow_succ,Int.pow_zero,Int.pow_zero,Int.one_mul,Int.one_mul,Int.neg_mul_neg]
theorem Cv(r g b r' g' b':Nat):qP r g b r' g' b'=qP r' g' b' r g b:=by unfold qP;rw[vW r,vW g,vW b]
noncomputable def cj(cols:List (C4))(c:Int):C4:=cols.getD c.toNat (0,0,0,0)
noncomputable def dst(cols:List (C4))(x y:Int):Int:=qP (cj cols x).2.1 (cj cols x).2.2.1 (cj cols x).2.2.2 (cj cols y).2.1 (cj cols y).2.2.1 (cj cols y).2.2.2
theorem Br(cols:List (C4))(x y:Int):dst cols x y=dst cols y x:=Cv _ _ _ _ _ _
theorem mz{cols:List (C4)}{c:Int}(h:c.toNat<cols.length):cols[c.toNat]? =some (cj cols c):=by unfold cj;rw[List.getD_eq_getElem?_getD,List.getElem?_eq_getElem h];rfl
theorem jP{cols:List (C4)}{c:Int}(h:c.toNat<cols.length):cj cols c∈cols:=List.mem_of_getElem? (mz h)
noncomputable def Gb(cols:List (C4))(cs:List Int)(c h:Int):Prop:=h∈fj cs/\h≠c/\∀o∈fj cs,o≠c->dst cols c h<dst cols c o\/(dst cols c h=dst cols c o/\h<=o)
theorem Gb.uniq {cols:List (C4)} {cs:List Int} {c g h:Int} (a:Gb cols cs c g) (b:Gb cols cs c h):g=h:=by have h1:=a.2.2 h b.1 b.2.1;have h2:=b.2.2 g a.1 a.2.1;omega
noncomputable def lN:Expr:=keyOf (NP (Mw eG 2))
noncomputable def Pg:Scope:=GX (aA eG) lN
theorem lsN:Ea ["colour","palette"] Pg:=⟨Z,Z,Z,by decide+kernel,by decide+kernel⟩
theorem Sx:Pg.names.lookup ("other":Str)=some NameKind.local:=by decide+kernel
theorem R5:∀y∈Pg.names,y.2=NameKind.free->(aA eG).names.lookup y.1=some .cell:=by decide+kernel
noncomputable def Hw(K:W.Frag)(cL:Addr)(ms:nQ):Sp:=fun vs H Q _=>∃(a p l:Addr)(cs:List Int)(cols:List (C4))(c:Int),vs=[.ref a,.ref p,.int c]/\H a=some (.lst (cs.map V.int))/\cs.length<=60/\fW cL H p l cols/\(∀o∈fj cs,o.toNat<cols.length)/\c∈fj cs/\(fj cs).filter (fun o=>decide (o≠c))≠[]/\gr ms H/\∀h H',Ok ms H H'->Gb cols cs c h->Q (.int h) H'
section
variable{P:Program}{w:World}{K:W.Frag}{mg:Str->Option Value}{base:Heap}{cFE cC cN cM cP cL cB cD cZ:Addr}{tP tS tC tI:Tok}
theorem QM{prm:Arguments}(hp:Cr lN=some prm)(T:Txt K mg cFE cC cN cM cP cL cB cD cZ tP tS tC tI){f cc p l:Addr}{cl:List (Str×Addr)}{cols:List (C4)}{col:C4}(gA:DefX P w K mg base 5 "apart" ["one","other"] [] (uo K cC))(gO:wB P w K mg base cL 3 "colour_of" ["self","cell"] (oZ K cN cL))(hhas:∀x,Pg.names.lookup x=some .free->∃c,cl.lookup x=some c)(hce:qY base ["colour","palette"] cl [some (.ref col.1),some (.ref p)]):
  wz P w K mg base 6 f (fun v H Q=>H f=some (mD f ⟨prm,yj lN,Pg,qN,cl,.none,cc⟩)/\H cc=some (jU cc qN)/\∃i:Int,v= .int i/\fW cL H p l cols/\jD H col.1 col.2.1 col.2.2.1 col.2.2.2/\0<=i/\i.toNat<cols.length/\∀t H',aC H H'->H' t=some (.tup [.int (qP col.2.1 col.2.2.1 col.2.2.2 (cj cols i).2.1 (cj cols i).2.2.1 (cj cols i).2.2.2),.int i])->Q (.ref t) H'):=by
 cases hp;refine yI (k:=5) (x:="other") lsN Sx hhas hce (fun v H Q h=>⟨h.1,h.2.1⟩) (fun _ _ _ _=>Z) fun A outer s H v Q hr h=>?_;refine wj h fun _ _ p2_=>?_;obtain⟨i,rfl,pv0,cc1,h0,h1,k⟩:=p2_;obtain⟨⟨dx,hpp⟩,cv⟩:=id pv0;refine⟨_,(bZ (aa (bB gA (hr.mono (by decide)) DK Z (aa (pv 1) (aa (o5 (pv 2) T.cl gO (hr.mono (by decide)) DK (aa (pv 0) aj)) aj))) (aa (pv 0) aj))),?_⟩;have c2:=cv.2 _ (jP h1);refine⟨_,Z,_,Z,p,dx,_,Z,hpp,dM (by decide+kernel),_,Z,p,l,cols,_,Z,pv0,.int i,fun n c e1 e2=>?_,fun z=>?_⟩
 ·injection e1 with e1
  subst e1
  have e3:cj cols (n:Int)=c:=by have:=mz h1;rw[show(n:Int).toNat=n from rfl,e2] at this;exact(Option.some.inj this).symm
  rw[e3] at c2;refine⟨_,_,Z,cc1.tc,c2.tc,fun a r g b a' r' g' b' ea cA ea' cB H1 s1=>?_,fun z=>?_⟩
  ·injection ea with ea
   injection ea' with ea'
   subst ea ea';refine wj (cA.inj cc1) fun e0_ e1_ e2_=>?_;subst e0_;subst e1_;subst e2_;refine wj (cB.inj c2) fun e0_ e1_ e2_=>?_;subst e0_;subst e1_;subst e2_;refine⟨_,Z,uw,fun t ht=>k t _ (s1.trans (au ht)) ?_⟩;rw[e3];exact ak
  ·rw[cc1.yes,c2.yes] at z;cases z
 ·simp only[cQ,Bool.and_eq_false_iff,decide_eq_false_iff_not] at z;omega
theorem jC:aL ["counts","palette","cell","colour","others"] ["counts","palette","cell"] (aA eG):=by walk_at "s"
theorem tW{f c p:Addr}{fd:FuncData}(F:bf K "nearest_used" "nearest_used" eG .none f fd)(hc:fd.code= .ref c)(hC:W.CodeHd base c p)(hB:BMain mg base){ms:nQ}(nd:ND ms)(hm:(p,qN)∈ms)(T:Txt K mg cFE cC cN cM cP cL cB cD cZ tP tS tC tI)(g_used_cells:jA P w K mg base 1 "used_cells" ["counts"] [] (xf K))(g_m_colour_of:wB P w K mg base cL 3 "colour_of" ["self","cell"] (oZ K cN cL))(gA:∀base,lH K mg base->DefX P w K mg base 5 "apart" ["one","other"] [] (uo K cC))(gO:∀base,lH K mg base->wB P w K mg base cL 3 "colour_of" ["self","cell"] (oZ K cN cL)):bD P w K mg base (kj P w) 8 f fd ["counts","palette","cell"] (Hw K cL ms):=by
 refine F.okXT hc jC (fun vs H Q E h=>?_) (fun cdv hcdv A outer s H vs Q E hr h=>?_)
 ·refine dZ h fun a p' l cs cols c' e6_ _=>?_;subst e6_;rfl
 ·refine dZ h fun a pp l cs cols c' e6_ p7_=>?_;subst e6_;obtain⟨e,hl,pv0,hcol,hc',ne,tab,k⟩:=p7_;obtain⟨⟨dx,hpp⟩,cv⟩:=id pv0;have hc0:=dW.mp hc';have hcl:=hcol c' hc'
  refine⟨_,(ao (aK (i:=3) jC.nd Z (by walk_at "o") (o5 (pv 1) T.cl g_m_colour_of (hr.mono (by decide)) eV (aa (pv 2) aj)))
    (ao (kI (ix:=4) (N:=["other","cell"]) (src:=[none,some 2]) jC.nd Z Z Z ⟨Z,Z,Z,Z,Z,by decide+kernel⟩ (oY K Z (aD g_used_cells (hr.mono (by decide)) Z (aa (pv 0) aj))) (fun s H C fp=>aJ (i:=0) (show(["other","cell"]:List Str).Nodup by decide+kernel) Z (by walk_at "o")) (fun s H C fp=>(kO (aW xg (pv 0) (pv 1) (aZ _)))) (fun s H C fp=>(pv 0)))
    (az (aN (rR (xK (k:=6) hr Z hB (by intro;rfl)) Z T.min PyProof.Rows.boot_min (aa (pv 4) aj) (zE hcdv hC hB (iw.of R5))))))),?_⟩
  refine bz _ Z pp dx _ Z hpp (dM (by decide+kernel)) (bh _ Z pp l cols _ Z pv0 (.int c') (fun n c e1 e2=>?_) fun z=>?_)
  ·injection e1 with e1
   subst e1
   have e3:cj cols (n:Int)=c:=by have:=mz hcl;rw[show(n:Int).toNat=n from rfl,e2] at this;exact(Option.some.inj this).symm
   refine aM _ Z a cs Z e (Nat.le_trans hl (by decide)) fun q H1 s1 hq eq=>dU q Z ⟨_,aP.of eq⟩ fun D hD=>?_;refine bR (k:=0) (fun v=>v) (fun v=> !decide (v= .int (n:Int))) (src_list (aP.of eq)) (by rw[List.length_map];exact Nat.le_trans (Nat.le_trans (oG cs) hl) (by decide)) hD (fun x hx H' Qb _ kk=>?_) (fun x hx _ H' Q' sm kk=>⟨_,Z,kk H' (aC.refl _)⟩) fun H2 s2 hD2=>?_
   ·refine aO (List.mem_map.mp hx) fun o _ e2_=>?_;subst e2_;exact⟨_,Z,_,Z,Z,_,Z,kk H' (aC.refl _)⟩
   have s02:=s1.trans s2
   have e4:H2 D=some (.lst (((fj cs).filter fun o=>decide (o≠(n:Int))).map V.int)):=by
    rw[hD2,List.map_id',List.filter_map]
    congr 3
    refine List.filter_congr fun o _=>?_;simp
   have tab2:=tab.mono s02
   dsimp only[fK,CT,Oc,J7,iY,Er,wg,nU]
   refine⟨_,Z,?_⟩;refine uG (ts:=ms.map (·.1)) (List.mem_map_of_mem hm) tab2.hts (tab2 (p,qN) hm) fun f1 c1 H3 bt ot tb hf1 hc1=>?_;have nt:=tab2.nt bt;have ok3:Ok ms H H3:=((Ok.refl tab).same s02).lam nd hm bt ot tb;have pv3:=nt.pal (pv0.mono s02);have cc3:jD H3 c.1 c.2.1 c.2.2.1 c.2.2.2:=pv3.2.2 c (List.mem_of_getElem? e2);refine gb D f1 ((fj cs).filter fun o=>decide (o≠(n:Int))) (fun o=>dst cols (n:Int) o) (fun o=>o) (fun H4=>aC H3 H4) (vY _ Z Z ne (aC.refl _) (fun H4 s4=>s4 _ _ (nt.lst e4)) (fun base' ok cap=>QM (cols:=cols) (l:=l) (p:=pp) (col:=c) (cc:=c1) Z T (gA base' ok) (gO base' ok) rQ (uE cap (iw.of R5) Z fun i x y e1 e2=>?_)) ⟨fun m hm' H4 Q' s4 kk=>?_,fun H4 s4=>k _ H4 (ok3.same s4) ?_⟩)
   ·match i,e1,e2 with
    | 0,e1,e2=>cases e1;cases e2;exact⟨by decide+kernel,Z,3,Z,Z⟩
    | 1,e1,e2=>cases e1;cases e2;exact⟨by decide+kernel,Z,1,Z,Z⟩
    | i+2,e1,e2=>cases e1
   ·have hmu:=(List.mem_filter.mp hm').1;refine JS (s4 _ _ hf1) (s4 _ _ hc1) (KH m Z (pv3.mono s4) (cc3.mono s4) ((dW.mp hmu).1) (hcol m hmu) fun t H5 s5 e5=>kk t H5 (s4.trans s5) (fun b xs eb=>s5 _ _ eb) ?_);rw[e5,<-e3];rfl
   ·have m:=Et (ka:=fun o=>dst cols (n:Int) o) (kb:=fun o=>o) ne;have m1:=List.mem_filter.mp m.1;refine⟨m1.1,by simpa using m1.2,fun o ho hne=>?_⟩;exact m.2 o (List.mem_filter.mpr ⟨ho,by simpa using hne⟩)
  ·simp only[cQ,Bool.and_eq_false_iff,decide_eq_false_iff_not] at z;omega
end
section
variable{K:W.Frag}{H H':Hp}{v:V}
theorem bA.tc {a:Addr} {cs:List (C4)} (w:bA H a cs):∀x∈cs.map (fun c=>V.ref c.1),TC K H x:=fun x hx=>by refine aO (List.mem_map.mp hx) fun c hc e2_=>?_;subst e2_;exact(w.2 c hc).tc
end
theorem bA.tm {K:W.Frag} {H:Hp} {a:Addr} {cs:List (C4)} (w:bA H a cs) (hl:cs.length<=1000000):TM K H (.ref a):=
 ⟨.lst w.1,fun ys h=>(by rw[aV w.1] at h;cases h;rw[List.length_map];exact hl),fun ys h=>(by rw[aV w.1] at h;cases h;exact w.tc)⟩
theorem Mt{K:W.Frag}{cP cL:Addr}{H:Hp}{Q:Addr->Hp->Prop}{E:XK}{a:Addr}{cs:List (C4)}(vr:bA H a cs)(h1:1<=cs.length)(h16:cs.length<=16)(nd:(cs.map kc).Nodup)(k:∀x l H',aC H H'->H x=none->H l=none->x≠l->fW cL H' x l cs->Q x H'):
  ∀x dx,H x=none->H dx=none->dx≠x->rM K cP cL [.ref x,.ref a] (upd (upd H dx (.own x)) x (.ins cL dx [])) (fun v H2=>v= .non/\Q x H2) E:=by
 intro p dx np ndx ne;have x1:aC H (upd (upd H dx (.own p)) p (.ins cL dx [])):=fun b q e=>by rw[aB (aF e np),aB (aF e ndx)];exact e
 refine eH p dx _ Z ak ((vr.mono x1).tm (by omega)) (fun a' d' ea cv' _ _ _ l H2 hl2 kp2 pq=>⟨Z,?_⟩) fun ng=>(ng (gJ a _ Z (vr.mono x1) h1 h16 nd)).elim;cases ea;cases(vr.mono x1).inj cv';refine k p l H2 (fun b q e=>kp2 b q (x1 b q e) (aF e np)) np (x1.free hl2) (fun z=>?_) pq;rw[<-z,ak] at hl2;cases hl2
theorem yf{K:W.Frag}{H:Hp}{l:Addr}{ns:List Int}{n:Int}{Q:VK}(e:H l=some (.lst (ns.map V.int)))(hn:n∈ns)(k:Q (.int ((ns.idxOf n:Nat):Int)) H):ut K 1 (.ref l) [.int n] H Q:=by
 have hj:ns.idxOf n<ns.length:=List.idxOf_lt_length_of_mem hn;refine gC l _ (.int n) (fun v=>JV v (.int n)) (ns.idxOf n) (.int n) Z Z e (fun z hz=>?_) ?_ (by simp[JV]) ⟨fun i z hi hz=>?_,k⟩
 ·refine aO (List.mem_map.mp hz) fun m _ e2_=>?_;subst e2_;exact .inl (.inr ⟨Z,Z,Z⟩)
 ·rw[List.getElem?_map,List.getElem?_eq_getElem hj,List.getElem_idxOf hj];rfl
 ·rw[List.getElem?_map,List.getElem?_eq_getElem (by omega)] at hz;cases hz;have:=List.not_of_lt_findIdx (p:=(·==n)) (xs:=ns) hi;simpa[JV] using this
noncomputable def yC(rows:List (List Int))(order:List Int):Prop:=jL (fun c=> -(cns rows).getD c.toNat 0) (fj (cns rows)) order
theorem jL.uniq {kf:Int->Int} {ns a b:List Int} (ha:jL kf ns a) (hb:jL kf ns b):a=b:=
 List.Perm.eq_of_pairwise (fun x y _ _ h1 h2=>by omega) ha.2 hb.2 (ha.1.trans hb.1.symm)
noncomputable def iT(order:List Int)(rows:List (List Int)):List (List Int):=rows.map fun r=>r.map fun c=>((order.idxOf c:Nat):Int)
theorem fJ{rows:List (List Int)}{order:List Int}(h:yC rows order){c:Int}:c∈order↔c∈fj (cns rows):=h.1.mem_iff
theorem qW{rows:List (List Int)}{order:List Int}(h:yC rows order):order.length<=16:=by rw[h.1.length_eq];have:=oG (cns rows);rw[dY] at this;exact this
theorem MP{rows:List (List Int)}{order:List Int}(h:yC rows order):order.Nodup:=h.1.nodup_iff.mpr ((lB _).imp fun h=>by omega)
theorem GP{cols:List (C4)}{rows:List (List Int)}{order:List Int}(h:yC rows order)(hl:∀c∈fj (cns rows),c.toNat<cols.length)(nd:(cols.map kc).Nodup):((order.map (cj cols)).map kc).Nodup:=by
 rw[List.map_map];refine List.pairwise_map.mpr ((MP h).imp_of_mem fun{a b} ha hb hne=>?_);have a1:=hl a (fJ h |>.mp ha);have b1:=hl b (fJ h |>.mp hb);have a0:=(dW.mp (fJ h |>.mp ha)).1;have b0:=(dW.mp (fJ h |>.mp hb)).1;intro z;have q1:(cols.map kc)[a.toNat]? =some (kc (cj cols a)):=by rw[List.getElem?_map,mz a1];rfl
 have q2:(cols.map kc)[b.toNat]? =some (kc (cj cols b)):=by rw[List.getElem?_map,mz b1];rfl
 have z':kc (cj cols a)=kc (cj cols b):=z;rw[z'] at q1;have:=(List.getElem?_inj (by rw[List.length_map];exact a1) nd).mp (q1.trans q2.symm);omega
noncomputable def lO:Expr:=keyOf (NP (Mw dj 2))
noncomputable def LC:Scope:=GX (aA dj) lO
theorem S7:Ea ["counts"] LC:=⟨Z,Z,Z,by decide+kernel,by decide+kernel⟩
theorem SQ:LC.names.lookup ("cell":Str)=some NameKind.local:=by decide+kernel
theorem R9:∀y∈LC.names,y.2=NameKind.free->(aA dj).names.lookup y.1=some .cell:=by decide+kernel
noncomputable def Ec(K:W.Frag)(cB cN cL:Addr)(ms:nQ):Sp:=fun vs H Q E=>∃(x:V)(p l:Addr)(cols:List (C4)),vs=[x,.ref p]/\fW cL H p l cols/\gr ms H/\
 ((∃a ps rows wd,x= .ref a/\bj H a ps (ir rows)/\Good rows wd/\(dH rows.flatten<(cols.length:Int)->(cols.map kc).Nodup/\∀t np nl q qs order H',Ok ms H H'->yC rows order->H' t=some (.tup [.ref np,.ref q])->H np=none->H nl=none->H q=none->oN H qs->fW cL H' np nl (order.map (cj cols))->bj H' q qs (ir (iT order rows))->nl∉q::qs->Q (.ref t) H')/\
  ((cols.length:Int)<=dH rows.flatten->∀H',aC H H'->E (.ref cN) none H'))\/(jy K H x/\∀H',aC H H'->E (.ref cB) none H'))
section
variable{P:Program}{w:World}{K:W.Frag}{mg:Str->Option Value}{base:Heap}{cFE cC cN cM cP cL cB cD cZ:Addr}{tP tS tC tI:Tok}
theorem lamO{prm:Arguments}(hp:Cr lO=some prm){f c a:Addr}{cl:List (Str×Addr)}{cs:List Int}(hhas:∀x,LC.names.lookup x=some .free->∃c,cl.lookup x=some c)(hce:qY base ["counts"] cl [some (.ref a)]):
  wz P w K mg base 1 f (fun v H Q=>H f=some (mD f ⟨prm,yj lO,LC,qO,cl,.none,c⟩)/\H c=some (jU c qO)/\∃i:Int,v= .int i/\H a=some (.lst (cs.map V.int))/\0<=i/\i.toNat<cs.length/\Q (.int (-(cs.getD i.toNat 0))) H):=by
 cases hp;refine yI (k:=0) (x:="cell") S7 SQ hhas hce (fun v H Q h=>⟨h.1,h.2.1⟩) (fun _ _ _ _=>Z) fun A outer s H v Q hr h=>?_;refine wj h fun _ _ p2_=>?_;obtain⟨i,rfl,e,h0,h1,k⟩:=p2_;refine⟨_,(xP rT (bw (lJ K Z) (pv 1) (pv 0) (fun _ _=>Z))),?_⟩;exact⟨_,Z,_,Z,a,_,i,.int (cs.getD i.toNat 0),Z,Z,aP.of e,jh h0 h1,_,Z,k⟩
theorem eY:aL ["picture","palette","counts","cells","ordered"] ["picture","palette"] (aA dj):=by walk_at "s"
theorem qj{f c p:Addr}{fd:FuncData}(F:bf K "ordered_picture" "ordered_picture" dj .none f fd)(hc:fd.code= .ref c)(hC:W.CodeHd base c p)(hB:BMain mg base){ms:nQ}(nd:ND ms)(hm:(p,qO)∈ms)(T:Txt K mg cFE cC cN cM cP cL cB cD cZ tP tS tC tI)(g_need_shown:DefX P w K mg base 10 "need_shown" ["picture","palette"] [] (ux K cB cN cL))(g_cell_counts:DefX P w K mg base 9 "cell_counts" ["picture"] [] (Aw K cB))(g_used_cells:jA P w K mg base 1 "used_cells" ["counts"] [] (xf K))(g_m_colour_of:wB P w K mg base cL 3 "colour_of" ["self","cell"] (oZ K cN cL))(g_Palette:Ha P w K mg base cL 5 "Palette" ["self","colours"] (rM K cP cL)):bD P w K mg base (kj P w) 11 f fd ["picture","palette"] (Ec K cB cN cL ms):=by
 refine F.okXT hc eY (fun vs H Q E h=>?_) (fun cdv hcdv A outer s H vs Q E hr h=>?_)
 ·refine gn h fun x pp l cols e4_ _=>?_;subst e4_;rfl
 ·obtain⟨x,pp,l,cols,rfl,pq,tab,h⟩:=h;have hu:_+64<cLine:=hr.units
  refine⟨_,(ao (bQ (bB g_need_shown (hr.mono (by decide)) eV Z (aa (pv 0) (aa (pv 1) aj))))
    (ao (aK (i:=2) eY.nd Z (by walk_at "o") (bB g_cell_counts (hr.mono (by decide)) eV Z (aa (pv 0) aj)))
    (ao (aK (i:=3) eY.nd Z (by walk_at "o") (rR (zA (k:=1) (hr.mono (by decide)) hB (by intro;rfl)) Z T.sorted PyProof.Rows.boot_sorted (aa (aD g_used_cells (hr.mono (by decide)) Z (aa (pv 2) aj)) aj) (zE hcdv hC hB (iw.of R9))))
    (ao (PS.nox (aK (i:=4) eY.nd Z (by walk_at "o") (qG g_Palette (hr.mono (by decide)) jc Z (aa (bH (N:=["cell","palette"]) (src:=[none,some 1]) Z ⟨Z,Z,Z,Z,Z,by decide+kernel⟩ (oY K Z (pv 3)) (fun s H C fp=>aJ (i:=0) (show(["cell","palette"]:List Str).Nodup by decide+kernel) Z (by walk_at "o")) (fun s H C fp=>bF) (fun s H C fp=>(o5 (pv 1) T.cl g_m_colour_of (hr.mono (by decide)) jc (aa (pv 0) aj)))) aj))))
    (az (aN (bZ (aa (pv 4) (aa (bH (N:=["row","cells"]) (src:=[none,some 3]) Z ⟨Z,Z,Z,Z,Z,by decide+kernel⟩ (oY K Z (pv 0)) (fun s H C fp=>aJ (i:=0) (show(["row","cells"]:List Str).Nodup by decide+kernel) Z (by walk_at "o")) (fun s H C fp=>bF) (fun s H C fp=>(bH (N:=["cell","cells"]) (src:=[none,some 1]) Z ⟨Z,Z,Z,Z,Z,by decide+kernel⟩ (oY K Z (pv 0)) (fun s H C fp=>aJ (i:=0) (show(["cell","cells"]:List Str).Nodup by decide+kernel) Z (by walk_at "o")) (fun s H C fp=>bF) (fun s H C fp=>(Ci K Z PySem.F.plainAttrs_list PySem.F.slot_list_index PySem.F.type_list_index (oV K Z 1 (by decide) hu) (pv 1) (aa (pv 0) aj)))))) aj))))))))),?_⟩
  rcases h with⟨a,ps,rows,wd,rfl,pic,gd,kY,kN⟩ | ⟨bad,k⟩
  ·refine bT _ Z _ Z (ur _ pp l cols Z pq (.inl (aU a ps rows wd Z pic gd (fun hmx H1 s1=>?_) kN)));obtain⟨ndk,kY⟩:=kY hmx;have pic1:=pic.mono s1;have pq1:=pq.mono s1;refine bT _ Z _ Z (.inl (fV a ps rows wd Z pic1 gd fun C H2 s2 hC eC=>?_));have hcl:(cns rows).length<=60:=by rw[dY];decide
   dsimp only[fK,CT,Fz,J7,iY,Er,wg,nU]
   refine aM _ Z C (cns rows) Z eC (Nat.le_trans hcl (by decide)) fun u H3 s3 hu3 eu=>?_;have s03:=s1.trans (s2.trans s3);have tab3:=tab.mono s03;refine uG (ts:=ms.map (·.1)) (List.mem_map_of_mem hm) tab3.hts (tab3 (p,qO) hm) fun f1 c1 H4 bt ot tb hf1 hc1=>?_;have nt:=tab3.nt bt;have ok4:Ok ms H H4:=((Ok.refl tab).same s03).lam nd hm bt ot tb;refine⟨u,f1,fj (cns rows),fun c=> -((cns rows).getD c.toNat 0),_,Z,Z,nt.lst eu,lB _,by have:=oG (cns rows);rw[dY] at this;omega,fun base' ok cap=>lamO (cs:=cns rows) (a:=C) (c:=c1) Z rQ (uE cap (iw.of R9) Z fun i x y e1 e2=>?_),fun n hn Q' kk=>⟨hf1,hc1,n,Z,nt.lst (s3 _ _ eC),(dW.mp hn).1,(dW.mp hn).2.1,kk⟩,fun D order hD so=>?_⟩
   ·match i,e1,e2 with
    | 0,e1,e2=>cases e1;cases e2;exact⟨by decide+kernel,Z,2,Z,Z⟩
    | i+1,e1,e2=>cases e1
   have sD:=au (o:=HO.lst (order.map V.int)) hD;have eD:upd H4 D (HO.lst (order.map V.int)) D=some (HO.lst (order.map V.int)):=ak;generalize upd H4 D (HO.lst (order.map V.int))=H5 at sD eD⊢;have so:yC rows order:=so;have ok5:=ok4.same sD;have pq5:=(nt.pal (pq.mono s03)).mono sD;have pic5:=(nt.pic (pic.mono s03)).mono sD
   have hlt:∀c∈fj (cns rows),c.toNat<cols.length:=fun c hc=>by have h1:=gq.mp hc;have:=iJ gd.fne c h1.2.2;omega
   have hol:=qW so
   have hne:order≠[]:=fun z=>by have h1:=gd.fne;obtain⟨c,hc⟩:=List.exists_mem_of_ne_nil _ h1;have h2:=gd.flat_mem hc;have:=(fJ so).mpr (gq.mpr ⟨h2.1,h2.2,hc⟩);rw[z] at this;cases this
   have hpos:0<order.length:=List.length_pos_iff.mpr hne
   dsimp only[fK,CT,Fz,IK,iY,wg,nU]
   refine bc _ Z D Z ⟨_,aP.of eD⟩ fun L hL=>?_;refine bR (k:=0) (fun v=>match v with | .int c=>Rz cols c | _=> .non) (fun _=>true) (src_list (aP.of eD)) (by rw[List.length_map];exact Nat.le_trans hol (by decide)) hL (fun x _ H' Qb _ kk=>kk H' (aC.refl _)) (fun x hx _ H3 Q3 s3 kk3=>?_) fun H6 s6 e6=>?_
   ·refine aO (List.mem_map.mp hx) fun c hc e2_=>?_;subst e2_;have cu:=(fJ so).mp hc;have c0:=(dW.mp cu).1;have hlt:=hlt c cu;have pq3:=pq5.mono s3;obtain⟨⟨dx,hp⟩,cv⟩:=id pq3;refine bz _ Z pp dx _ Z hp (dM (by decide+kernel)) (bh _ Z pp l cols _ Z pq3 (.int c) (fun n d e hd=>?_) fun hw=>?_)
    ·have en:c=(n:Int):=by injection e
     have:=kk3 H3 (aC.refl _)
     have e2:Rz cols c= .ref d.1:=by unfold Rz;rw[en,Int.toNat_natCast,List.getD_eq_getElem?_getD,hd];rfl
     show Q3 (.ref d.1) H3;rw[<-e2];exact this
    ·exact absurd (show cQ 0 ((cols.length:Int) - 1) (.int c)=true by simp only[cQ,Bool.and_eq_true,decide_eq_true_eq];omega) (by rw[hw];decide)
   have e6':H6 L=some (.lst ((order.map (cj cols)).map fun c=>V.ref c.1)):=by rw[e6,cU,List.map_map,List.map_map];rfl
   have pq6:=pq5.mono s6
   have vr:bA H6 L (order.map (cj cols)):=⟨e6',fun d hd=>by refine aO (List.mem_map.mp hd) fun c hc e2_=>?_;subst e2_;exact pq6.2.2 _ (jP (hlt c ((fJ so).mp hc)))⟩
   dsimp only
   refine Mt vr (by rw[List.length_map];exact hpos) (by rw[List.length_map];exact hol) (GP so hlt ndk) fun np nl H7 s7 hnp hnl nne pal=>?_;have s57:=s6.trans s7;have ok7:=ok5.same s57;have pic7:=pic5.mono s57;have eD7:=s57 _ _ eD;refine fB _ Z (bc _ Z a Z ⟨_,aP.of pic7.top⟩ fun R hR=>?_);refine jd (k:=0) (fun x=>((rowOf H7 x).getD []).map fun v=>match v with | .int c=> .int ((order.idxOf c:Nat):Int) | _=> .non) (src_list (aP.of pic7.top)) (by rw[List.length_map,pic7.len,c7];exact Nat.le_trans gd.le (by decide)) hR (fun x hx H' Q' sm kk=>?_) fun qs H8 s8 fq pv=>?_
   ·refine aO (List.mem_map.mp hx) fun q hq e2_=>?_;subst e2_;refine kE (gd.mem2 pic7 hq) fun ns eq hl hcs hmem=>?_;rw[aV eq] at kk;refine bc _ Z q Z ⟨_,aP.of (sm _ _ eq)⟩ fun D2 hD2=>?_;refine bR (k:=0) (fun v=>match v with | .int c=> .int ((order.idxOf c:Nat):Int) | _=> .non) (fun _=>true) (src_list (aP.of (sm _ _ eq))) (by rw[List.length_map,hl];exact Nat.le_trans gd.w24 (by decide)) hD2 (fun x _ H' Qb _ kk=>kk H' (aC.refl _)) (fun x hx _ H3 Q3 s3 kk3=>?_) fun H3 s3 e3=>?_
    ·obtain⟨c,hc,rfl⟩:=List.mem_map.mp hx;have cm:=(fJ so).mpr (gq.mpr ⟨(hcs c hc).1,(hcs c hc).2,List.mem_flatten.mpr ⟨ns,hmem,hc⟩⟩);have eD3:=s3 _ _ (sm _ _ eD7);exact dz _ Z (.inl ⟨Z,_,aP.of eD3⟩) _ Z (yf eD3 cm (kk3 H3 (aC.refl _)))
    ·refine kk D2 H3 s3 hD2 ?_;rw[e3,cU];rfl
   have e9:(ps.map V.ref).map (fun x=>((rowOf H7 x).getD []).map fun v=>match v with | .int c=>V.int ((order.idxOf c:Nat):Int) | _=> .non)=ir (iT order rows):=by rw[jt (φ:=fun r=>r.map fun v=>match v with | .int c=>V.int ((order.idxOf c:Nat):Int) | _=> .non) (fun q r e=>by rw[aV e];rfl) ps _ pic7.row];unfold ir iT;rw[List.map_map,List.map_map];refine List.map_congr_left fun r _=>?_;simp only[Function.comp,List.map_map];rfl
   rw[e9] at pv;have back7:∀{q:Addr},H7 q=none->H q=none:=fun h=>ok7.back h;refine⟨uw,fun t ht=>?_⟩;have sT:=au (o:=HO.tup [V.ref np,V.ref R]) ht;refine kY t np nl R qs order _ (ok7.same (s8.trans sT)) so ak (ok5.back (s6.free hnp)) (ok5.back (s6.free hnl)) (back7 hR) (fun q hq=>back7 (fq q hq)) ((pal.mono s8).mono sT) (pv.mono sT) fun z=>?_;rcases List.mem_cons.mp z with z | z
   ·rw[<-z,pal.2.1] at hR;cases hR
   ·have:=fq nl z;rw[pal.2.1] at this;cases this
  ·exact bT _ Z _ Z (ur _ pp l cols Z pq (.inr ⟨bad,k⟩))
end
noncomputable def sJ(cols:List (C4))(rows R:List (List Int)):Prop:=∃g h,yd (cns rows) g/\Gb cols (cns rows) g h/\R=chg rows g h
theorem sJ.uniq {cols:List (C4)} {rows R S:List (List Int)} (a:sJ cols rows R) (b:sJ cols rows S):R=S:=by refine dB a fun g h l1 n1 e4_=>?_;subst e4_;refine dB b fun g' h' l2 n2 e4_=>?_;subst e4_;cases l1.uniq l2;cases n1.uniq n2;rfl
theorem Al(rows:List (List Int))(g h:Int):(chg rows g h).flatten=rows.flatten.map fun c=>if c=g then h else c:=by unfold chg;rw[List.map_flatten]
theorem sJ.len {cols:List (C4)} {rows R:List (List Int)} (a:sJ cols rows R):(fj (cns R)).length+1=(fj (cns rows)).length:=by
 refine dB a fun g h l n e4_=>?_;subst e4_;have hg:=gq.mp l.1;have hh:=gq.mp n.1;have nd1:(fj (cns rows)).Nodup:=(lB _).imp fun h=>by omega
 have nd2:(fj (cns (chg rows g h))).Nodup:=(lB _).imp fun h=>by omega
 have p:(fj (cns (chg rows g h))).Perm ((fj (cns rows)).erase g):=by
  refine(List.perm_ext_iff_of_nodup nd2 (nd1.erase g)).mpr fun c=>?_;rw[nd1.mem_erase_iff,gq,gq,Al];constructor
  ·rintro⟨h0,h1,h2⟩;refine aO (List.mem_map.mp h2) fun c0 m0 e=>?_;by_cases z:c0=g
   ·rw[if_pos z] at e;subst e;exact⟨n.2.1,h0,h1,hh.2.2⟩
   ·rw[if_neg z] at e;subst e;exact⟨z,h0,h1,m0⟩
  ·rintro⟨ne,h0,h1,h2⟩;exact⟨h0,h1,List.mem_map.mpr ⟨c,h2,if_neg ne⟩⟩
 rw[p.length_eq,List.length_erase_of_mem l.1];have:=List.length_pos_of_mem l.1;omega
theorem sJ.good {cols:List (C4)} {rows R:List (List Int)} {wd:Nat} (a:sJ cols rows R) (gd:Good rows wd):Good R wd:=by refine dB a fun g h l n e4_=>?_;subst e4_;have hh:=gq.mp n.1;exact gd.chg hh.1 hh.2.1
theorem sJ.sub {cols:List (C4)} {rows R:List (List Int)} (a:sJ cols rows R) {c:Int} (hc:c∈R.flatten):c∈rows.flatten:=by
 refine dB a fun g h l n e4_=>?_;subst e4_;rw[Al] at hc;refine aO (List.mem_map.mp hc) fun c0 m0 e2_=>?_;subst e2_
 split
 ·exact(gq.mp n.1).2.2
 ·exact m0
inductive tG(cols:List (C4))(n:Nat):List (List Int)->List (List Int)->Prop
 | stop {rows:List (List Int)}:(fj (cns rows)).length<=n->tG cols n rows rows
 | step {rows R S:List (List Int)}:n<(fj (cns rows)).length->sJ cols rows R->tG cols n R S->tG cols n rows S
theorem tG.uniq {cols:List (C4)} {n:Nat} {rows R S:List (List Int)} (a:tG cols n rows R) (b:tG cols n rows S):R=S:=by
 induction a with
 | stop h=>
  cases b with
  | stop _=>rfl
  | step h2 _ _=>omega
 | step h o _ ih=>
  cases b with
  | stop h2=>omega
  | step _ o2 f2=>exact ih (by rw[o.uniq o2];exact f2)
theorem tG.good {cols:List (C4)} {n:Nat} {rows R:List (List Int)} {wd:Nat} (a:tG cols n rows R) (gd:Good rows wd):Good R wd:=by
 induction a with
 | stop h=>exact gd
 | step h o _ ih=>exact ih (o.good gd)
theorem tG.sub {cols:List (C4)} {n:Nat} {rows R:List (List Int)} (a:tG cols n rows R):∀c∈R.flatten,c∈rows.flatten:=by
 induction a with
 | stop h=>exact fun _ h=>h
 | step h o _ ih=>exact fun c hc=>o.sub (ih c hc)
noncomputable def zY(K:W.Frag)(cB cN cZ cL:Addr)(ms:nQ):Sp:=fun vs H Q E=>∃(x m:V)(p l:Addr)(cols:List (C4)),vs=[x,.ref p,m]/\fW cL H p l cols/\gr ms H/\Kd K H m/\
 ((∃a ps rows wd,x= .ref a/\bj H a ps (ir rows)/\Good rows wd/\(dH rows.flatten<(cols.length:Int)->(∀n:Nat,m= .int (n:Int)->1<=n->n<=16->∀q qs R H',Ok ms H H'->tG cols n rows R->H q=none->oN H qs->bj H' q qs (ir R)->Q (.ref q) H')/\(cQ 1 16 m=false->∀H',aC H H'->E (.ref cZ) none H'))/\
  ((cols.length:Int)<=dH rows.flatten->∀H',aC H H'->E (.ref cN) none H'))\/(jy K H x/\∀H',aC H H'->E (.ref cB) none H'))
noncomputable def SM:V->Int
 | .int m=>m
 | _=>0
noncomputable def posN(H:Hp):Option V->Nat
 | some (.ref a)=>match H a with
  | some (.lst xs)=>(fj (xs.map SM)).length
  | _=>0
 | _=>0
theorem Eo{H:Hp}{a:Addr}{cs:List Int}(e:H a=some (.lst (cs.map V.int))):posN H (some (.ref a))=(fj cs).length:=by
 simp only[posN,e,List.map_map]
 congr 2
 exact List.map_id' cs
theorem wZ{cs:List Int}{g:Int}(h:2<=(fj cs).length):(fj cs).filter (fun o=>decide (o≠g))≠[]:=fun z=>by rw[List.filter_eq_nil_iff] at z;have h0:=z _ (List.getElem_mem (show 0<(fj cs).length by omega));have h1:=z _ (List.getElem_mem (show 1<(fj cs).length by omega));have:=List.pairwise_iff_getElem.mp (lB cs) 0 1 (by omega) (by omega) (by omega);simp only[decide_eq_true_eq,ne_eq,Classical.not_not] at h0 h1;omega
theorem KC{K:W.Frag}(i:Nat):GK (vd (xf K) [] E0 (iY (wg i) nU)):=fun σ H Q Q' h q=>by refine JN q fun v e a p3_=>?_;obtain⟨cs,e1,e2,hl,k⟩:=p3_;exact aM v e a cs e1 e2 hl fun p H' s hp ep=>h _ _ (k p H' s hp ep)
section
variable{P:Program}{w:World}{K:W.Frag}{mg:Str->Option Value}{base:Heap}{cFE cC cN cM cP cL cB cD cZ:Addr}{tP tS tC tI:Tok}
theorem eQ:aL ["picture","palette","many","rows","counts","gone"] ["picture","palette","many"] (aA lE):=by walk_at "s"
theorem uW{f:Addr}{fd:FuncData}(F:bf K "fewer_cells" "fewer_cells" lE .none f fd){ms:nQ}(T:Txt K mg cFE cC cN cM cP cL cB cD cZ tP tS tC tI)(g_need_shown:DefX P w K mg base 10 "need_shown" ["picture","palette"] [] (ux K cB cN cL))(g_is_whole_within:jA P w K mg base 2 "is_whole_within" ["thing","least","most"] [] (Cu K))(g_copied_rows:jA P w K mg base 1 "copied_rows" ["rows"] [] (uF))(g_cell_counts:DefX P w K mg base 9 "cell_counts" ["picture"] [] (Aw K cB))(g_used_cells:jA P w K mg base 1 "used_cells" ["counts"] [] (xf K))(g_least_used:jA P w K mg base 3 "least_used" ["counts"] [] (Eg K ms))(g_nearest_used:DefX P w K mg base 8 "nearest_used" ["counts","palette","cell"] [] (Hw K cL ms))(g_with_cells_changed:jA P w K mg base 1 "with_cells_changed" ["picture","old","new"] [] (Mf K)):bD P w K mg base (kj P w) 11 f fd ["picture","palette","many"] (zY K cB cN cZ cL ms):=by
 refine F.okX eQ (fun vs H Q E h=>?_) (fun cdv A outer s H vs Q E hr h=>?_)
 ·refine zb h fun x m p2_=>?_;obtain⟨pp,l,cols,rfl,_⟩:=p2_;rfl
 ·refine zb h fun x m p2_=>?_;obtain⟨pp,l,cols,rfl,pq,tab,km,h⟩:=p2_
  refine⟨_,(ao (bQ (bB g_need_shown (hr.mono (by decide)) eV Z (aa (pv 0) (aa (pv 1) aj))))
    (ao (bN (cW (bU (aD g_is_whole_within (hr.mono (by decide)) Z (aa (pv 2) (aa aq (aa (bY (v:= .int 16) Z T.MOST_COLOURS ⟨_,Z⟩) aj)))))) (az (jo Z lq Z T.BadSize T.xBadSize (aa dC aj))) aX)
    (ao (aK (i:=3) eQ.nd Z (.inl Z) (aD g_copied_rows (hr.mono (by decide)) Z (aa (pv 0) aj)))
    (ao (aK (i:=4) eQ.nd Z (.inl Z) (bB g_cell_counts (hr.mono (by decide)) eV Z (aa (pv 3) aj)))
    (ao (PS.nox (Ac PassesOwn.never (aW rm (aR (nH K Z) Z T.len PySem.boot_len (aa (aD g_used_cells (hr.mono (by decide)) Z (aa (pv 4) aj)) aj)) (pv 2) (aZ _)) (ao (aK (i:=5) eQ.nd Z (.inl Z) (aD g_least_used (hr.mono (by decide)) Z (aa (pv 4) aj)))
    (ao (aK (i:=3) eQ.nd Z (.inl Z) (aD g_with_cells_changed (hr.mono (by decide)) Z (aa (pv 3) (aa (pv 5) (aa (bB g_nearest_used (hr.mono (by decide)) jc Z (aa (pv 4) (aa (pv 1) (aa (pv 5) aj)))) aj)))))
    (az (aK (i:=4) eQ.nd Z (.inl Z) (bB g_cell_counts (hr.mono (by decide)) jc Z (aa (pv 3) aj))))))))
    (az (aN (pv 3)))))))),?_⟩
  rcases h with⟨a,ps,rows,wd,rfl,pic,gd,kY,kN⟩ | ⟨bad,k⟩
  ·refine bT _ Z _ Z (ur _ pp l cols Z pq (.inl (aU a ps rows wd Z pic gd (fun hmx H1 s1=>?_) kN)));obtain⟨kY,kZ⟩:=kY hmx;refine fB _ Z (iu m 1 16 Z (km.mono s1) (fB _ Z (uc (fun h=>⟨uC,kZ h H1 s1⟩) (fun h=>?_))));refine bL (zj (lo:=1) (hi:=16) h) fun n e1_ n1 n16=>?_;subst e1_;have pic1:=pic.mono s1;refine bz _ Z a ps (ir rows) Z pic1 (by rw[c7];exact Nat.le_trans gd.le (by decide)) fun q0 qs0 H2 s2 hq0 fr0 pq0=>?_;refine bT _ Z _ Z (.inl (fV q0 qs0 rows wd Z pq0 gd fun C0 H3 s3 hC0 eC0=>?_))
   refine Ax (fun σ H4=>∃(q:Addr)(qs:List Addr)(R:List (List Int))(C:Addr)(v5:Option V),σ=[some (.ref a),some (.ref pp),some (.int (n:Int)),some (.ref q),some (.ref C),v5]/\Ok ms H H4/\H q=none/\oN H qs/\bj H4 q qs (ir R)/\H4 C=some (.lst ((cns R).map V.int))/\Good R wd/\(∀c∈R.flatten,c∈rows.flatten)/\∀S,tG cols n R S->tG cols n rows S) (fun σ H4=>posN H4 (σ.getD 4 none))
    (il q0 qs0 rows C0 none Z ((Ok.refl tab).same (s1.trans (s2.trans s3))) (s1.free hq0) (fun x hx=>s1.free (fr0 x hx)) (pq0.mono s3) eC0 (JS gd (fun _ h=>h) fun _ h=>h)) ?_ ?_
   ·rintro σ H4 ⟨q,qs,R,C,v5,rfl,ok4,hq,fr,pq4,eC,gR,sub,few⟩;have hcl:(cns R).length<=60:=by rw[dY];decide
    refine aM _ Z C (cns R) Z eC (Nat.le_trans hcl (by decide)) fun u H5 s5 hu5 eu=>fZ u _ Z (.inl (aP.of eu)) _ Z (fZ _ _ Z Z _ Z (nZ (fun h=>?_) (fun h=>?_)))
    ·have hlen:n<(fj (cns R)).length:=by have:=of_decide_eq_true h;rw[List.length_map] at this;omega
     have ok5:=ok4.same s5;have nt5:=tab.nt ok5.but
     have hlt:∀o∈fj (cns R),o.toNat<cols.length:=fun o ho=>by have h1:=gq.mp ho;have:=iJ gd.fne o (sub o h1.2.2);omega
     refine fB _ Z (IW C (cns R) Z (s5 _ _ eC) hcl (fun z=>(by rw[z] at hlen;cases hlen)) ok5.tab fun g H6 ok6 lst=>?_);have o6:=ok5.trans ok6;have nt6:=ok5.tab.nt ok6.but;refine bT _ Z _ Z (bG _ Z _ Z _ Z (gC C pp l (cns R) cols g Z (nt6.lst (s5 _ _ eC)) hcl (nt6.pal (nt5.pal pq)) hlt lst.1 (JS (wZ (by omega)) o6.tab fun h' H7 ok7 near=>?_)));have o7:=o6.trans ok7;have nt7:=ok6.tab.nt ok7.but;refine gW q qs R g h' Z (nt7.pic (nt6.pic (pq4.mono s5))) (Nat.le_trans gR.le (by decide)) (fun r hr'=>(by rw[(gR.row r hr').1];exact Nat.le_trans gR.w24 (by decide))) fun q2 qs2 H8 s8 hq2 fr2 pq8=>?_;have one:sJ cols R (chg R g h'):=di g h' lst near Z;have g8:=one.good gR;refine bT _ Z _ Z (.inl (fV q2 qs2 (chg R g h') wd Z pq8 g8 fun C2 H9 s9 hC2 eC2=>?_));refine⟨il q2 qs2 (chg R g h') C2 _ Z (o7.same (s8.trans s9)) (o7.back hq2) (fun x hx=>o7.back (fr2 x hx)) (pq8.mono s9) eC2 (JS g8 (fun c hc=>sub c (one.sub hc)) fun S fs=>few S (.step hlen one fs)),?_⟩;show posN H9 (some (.ref C2))<posN H4 (some (.ref C));rw[Eo eC2,Eo eC];have:=one.len;omega
    ·have hlen:(fj (cns R)).length<=n:=by have:=of_decide_eq_false h;rw[List.length_map] at this;omega
     exact⟨_,Z,kY n Z n1 n16 q qs R H5 (ok4.same s5) (few R (.stop hlen)) hq fr (pq4.mono s5)⟩
   ·exact qK (Ar (Lx _) (DN (fun xs H Q Q' h q=>by obtain⟨p,ys,e,hs,k⟩:=q;exact di p ys e hs (h _ _ k)) (qF (KC 4) BP)) (pZ 2))
  ·exact bT _ Z _ Z (ur _ pp l cols Z pq (.inr ⟨bad,k⟩))
end
noncomputable def Fd(l:List Int):List Int:=(List.range 16).map fun(i:Nat)=>(l.count (i:Int):Int)
theorem Ke(rows:List (List Int)):cns rows=Fd rows.flatten:=rfl
theorem Dw(l:List Int):(Fd l).length=16:=by unfold Fd;simp
theorem Jd{l:List Int}{c:Int}(h0:0<=c)(h1:c<=15):(Fd l).set c.toNat ((Fd l).getD c.toNat 0+1)=Fd (l++[c]):=by
 refine List.ext_getElem? fun i=>?_;have hc:c.toNat<16:=by omega
 have e1:(Fd l).getD c.toNat 0=(l.count c:Int):=by unfold Fd;rw[List.getD_eq_getElem?_getD,List.getElem?_map,List.getElem?_range hc];simp[Int.toNat_of_nonneg h0]
 rw[e1,List.getElem?_set];unfold Fd;rw[List.length_map,List.length_range,List.getElem?_map,List.getElem?_map];by_cases hi:i<16
 ·rw[List.getElem?_range hi];by_cases e:c.toNat=i
  ·rw[if_pos e,if_pos hc];subst e;simp[Int.toNat_of_nonneg h0,List.count_append]
  ·rw[if_neg e];have:((i:Nat):Int)≠c:=by omega
   simp[List.count_append,List.count_cons,Ne.symm this]
 ·rw[List.getElem?_eq_none (by simpa using hi)];rw[if_neg (show ¬c.toNat=i by omega)];rfl
noncomputable def Oq(cs:List Int):V->Bool
 | .int c=>decide (0<cs.getD c.toNat 0)
 | _=>false
theorem rF(rows:List (List Int)):(((List.range 16).map fun(i:Nat)=>V.int (0+(i:Int))).filter (Oq (cns rows))).map (fun v=>v)=(fj (cns rows)).map V.int:=by
 rw[List.map_id',List.filter_map];unfold fj;rw[dY,List.map_map]
 have:(List.range 16).filter (Oq (cns rows)∘fun(i:Nat)=>V.int (0+(i:Int)))=(List.range 16).filter fun(i:Nat)=>decide (0<(cns rows).getD i 0):=by refine List.filter_congr fun i _=>?_;simp[Oq]
 rw[this];refine List.map_congr_left fun i _=>?_;simp
noncomputable abbrev QD(cs:List Int)(c d:Int):Prop:= -(cs.getD c.toNat 0)< -(cs.getD d.toNat 0)\/(-(cs.getD c.toNat 0)= -(cs.getD d.toNat 0)/\c<d)
structure qX(cs F L:List Int):Prop where
 perm:(F++L).Perm (fj cs)
 srt:F.Pairwise (QD cs)
 ahead:∀f∈F,∀x∈L,QD cs f x
 asc:L.Pairwise (·<·)
theorem qX.start (cs:List Int):qX cs [] (fj cs):=⟨List.Perm.refl _,List.Pairwise.nil,(fun _ h=>nomatch h),lB cs⟩
theorem qX.step {cs F L:List Int} {b:Int} (o:qX cs F L) (hb:b∈L) (hm:∀c∈L,c≠b->QD cs b c):qX cs (F++[b]) (L.erase b):=by
 have nd:L.Nodup:=o.asc.imp fun h=>by omega
 refine⟨?_,?_,?_,o.asc.sublist List.erase_sublist⟩
 ·refine List.Perm.trans ?_ o.perm;rw[List.append_assoc];exact(List.perm_cons_erase hb).symm.append_left F
 ·rw[List.pairwise_append];exact⟨o.srt,List.pairwise_singleton _ _,fun f hf x hx=>by rw[List.mem_singleton.mp hx];exact o.ahead f hf b hb⟩
 ·intro f hf x hx;have hx':=nd.mem_erase_iff.mp hx;rcases List.mem_append.mp hf with hf | hf
  ·exact o.ahead f hf x hx'.2
  ·rw[List.mem_singleton.mp hf];exact hm x hx'.2 hx'.1
theorem qX.done {rows:List (List Int)} {F:List Int} (o:qX (cns rows) F []):yC rows F:=⟨by have:=o.perm;rwa [List.append_nil] at this,o.srt⟩
structure Kl(cs L:List Int)(i:Nat)(b:Int):Prop where
 at':∃k:Nat,L[k]? =some b/\k<=i
 le:∀c∈L.take i,cs.getD c.toNat 0<cs.getD b.toNat 0\/(cs.getD c.toNat 0=cs.getD b.toNat 0/\b<=c)
theorem jj{L:List Int}{i:Nat}{c x:Int}(h:L[i]? =some c)(hx:x∈L.take (i+1)):x∈L.take i\/x=c:=by
 rw[List.take_add_one,h] at hx;rcases List.mem_append.mp hx with hx | hx
 ·exact .inl hx
 ·exact .inr (by simpa using hx)
theorem Kl.up {cs L:List Int} {i:Nat} {b c:Int} (s:Kl cs L i b) (h:L[i]? =some c) (hlt:cs.getD b.toNat 0<cs.getD c.toNat 0):Kl cs L (i+1) c:=
 ⟨⟨i,h,Nat.le_succ _⟩,fun x hx=>by
  rcases jj h hx with hx | rfl
  ·have:=s.le x hx;omega
  ·exact .inr ⟨Z,Int.le_refl _⟩⟩
theorem Kl.stay {cs L:List Int} {i:Nat} {b c:Int} (asc:L.Pairwise (·<·)) (s:Kl cs L i b) (h:L[i]? =some c) (hlt:¬cs.getD b.toNat 0<cs.getD c.toNat 0):Kl cs L (i+1) b:=by
 refine aO s.at' fun k hk hki=>?_;refine⟨⟨k,hk,by omega⟩,fun x hx=>?_⟩;rcases jj h hx with hx | rfl
 ·exact s.le x hx
 ·obtain⟨h1,e1⟩:=List.getElem?_eq_some_iff.mp hk;obtain⟨h2,e2⟩:=List.getElem?_eq_some_iff.mp h
  have:b<=x:=by
   by_cases z:k=i
   ·subst z;rw[<-e1,<-e2];exact Int.le_refl _
   ·have:=List.pairwise_iff_getElem.mp asc k i h1 h2 (by omega);omega
  omega
theorem Kl.done {cs L:List Int} {b:Int} (s:Kl cs L L.length b):b∈L/\∀c∈L,c≠b->QD cs b c:=by refine aO s.at' fun k hk _=>?_;refine⟨List.mem_of_getElem? hk,fun c hc hne=>?_⟩;have:=s.le c (by rw[List.take_length];exact hc);show _\/_;omega
noncomputable def JM(H:Hp):Option V->Nat
 | some (.ref a)=>match H a with
  | some (.lst xs)=>xs.length
  | _=>0
 | _=>0
theorem DR{H:Hp}{a:Addr}{xs:List V}(e:H a=some (.lst xs)):JM H (some (.ref a))=xs.length:=by simp only[JM,e]
noncomputable def vQ:Sp:=fun vs H Q _=>∃a ps rows wd,vs=[.ref a]/\bj H a ps (ir rows)/\Good rows wd/\∀p H',aC H H'->H p=none->H' p=some (.lst ((cns rows).map V.int))->Q (.ref p) H'
noncomputable def Cj:Sp:=fun vs H Q _=>∃a ps rows wd,vs=[.ref a]/\bj H a ps (ir rows)/\Good rows wd/\∀p H',aC H H'->H p=none->H' p=some (.lst ((fj (cns rows)).map V.int))->Q (.ref p) H'
noncomputable def Jz(K:W.Frag):Sp:=fun vs H Q _=>∃a ps rows wd,vs=[.ref a]/\bj H a ps (ir rows)/\Good rows wd/\∀p order H',aC H H'->H p=none->yC rows order->H' p=some (.lst (order.map V.int))->Q (.ref p) H'
section
variable{P:Program}{w:World}{K:W.Frag}{mg:Str->Option Value}{base:Heap}{cFE cC cN cM cP cL cB cD cZ:Addr}{tP tS tC tI:Tok}
theorem jl:aL ["_law_picture_here","_law_found","_law_row","_law_cell"] ["_law_picture_here"] (aA mX):=by walk_at "s"
theorem wu{f:Addr}{fd:FuncData}(F:bf K "_law_counts" "_law_counts" mX .none f fd)(T:Txt K mg cFE cC cN cM cP cL cB cD cZ tP tS tC tI):bD P w K mg base gG 1 f fd ["_law_picture_here"] (vQ):=by
 refine F.ok jl (fun vs H Q E h=>?_) (fun cdv A outer s H vs Q E hr h=>?_)
 ·refine gn h fun a ps rows wd e4_ _=>?_;subst e4_;rfl
 ·refine jq h fun a ps rows wd e4_ pic gd k=>?_;subst e4_
  refine⟨_,(ao (aK (i:=1) jl.nd Z (.inl Z) (aG Dr (bW (aa aq aj)) aq))
    (ao (gm PassesOwn.never Z (oY K Z (pv 0)) (aJ (i:=2) jl.nd Z (.inl Z)) (az (gm PassesOwn.never Z (oY K Z (pv 2)) (aJ (i:=3) jl.nd Z (.inl Z)) (az (BR (aG dw (bw (lJ K Z) (pv 1) (pv 3) (fun _ _=>Z)) aq) (Hf (pv 1) (pv 3) set_list))))))
    (az (aN (pv 1))))),?_⟩
  refine⟨uC,fun t0 h0=>nj t0 16 _ Z Z ak (by decide) (by decide) (by decide) fun p hp=>?_⟩;have s0:=au (o:=HO.lst [V.int 0]) h0;have hp0:H p=none:=s0.free hp;have s1:=s0.trans (au (o:=HO.lst (List.replicate (16:Int).toNat [V.int 0]).flatten) hp);have e1:upd (upd H t0 (.lst [.int 0])) p (.lst (List.replicate (16:Int).toNat [V.int 0]).flatten) p=some (.lst ((Fd []).map V.int)):=by rw[ak];rfl
  generalize upd (upd H t0 (.lst [.int 0])) p (.lst (List.replicate (16:Int).toNat [V.int 0]).flatten)=H1 at s1 e1⊢;refine bc _ Z a Z ⟨_,aP.of (s1 _ _ pic.top)⟩ ?_;refine j7 (xs:=ps.map V.ref) (fun i σ H2=>aC H H2/\H2 p=some (.lst ((Fd (rows.take i).flatten).map V.int))/\∃v2 v3,σ=[some (.ref a),some (.ref p),v2,v3]) (JS s1 e1 (Qx none none Z)) (fun i σ H2 _ q=>aP.of (q.1 _ _ pic.top)) ?_ ?_
  ·rintro i x σ H2 hx ⟨s2,e2,v2,v3,rfl⟩;refine aO (getElem?_ref hx) fun q hq e2_=>?_;subst e2_;refine aO (pic.at hq) fun r hr' eq=>?_;unfold ir at hr';rw[List.getElem?_map] at hr';refine aO (Option.map_eq_some_iff.mp hr') fun ns hn e2_=>?_;subst e2_;have hrow:=(gd.row ns (List.mem_of_getElem? hn)).2;have nqp:q≠p:=fun z=>by rw[z,hp0] at eq;cases eq
   refine bc _ Z q Z ⟨_,aP.of (s2 _ _ eq)⟩ ?_;refine j7 (xs:=ns.map V.int) (fun j σ H3=>aC H H3/\H3 p=some (.lst ((Fd ((rows.take i).flatten++ns.take j)).map V.int))/\∃v3,σ=[some (.ref a),some (.ref p),some (.ref q),v3]) (JS s2 (by rw[List.take_zero,List.append_nil];exact e2) ⟨v3,Z⟩) (fun j σ H3 _ q'=>aP.of (q'.1 _ _ eq)) ?_ ?_
   ·rintro j x σ H3 hx ⟨s3,e3,v3,rfl⟩;rw[List.getElem?_map] at hx;refine aO (Option.map_eq_some_iff.mp hx) fun c hc e2_=>?_;subst e2_;have hcb:=hrow c (List.mem_of_getElem? hc);have hct:c.toNat<(Fd ((rows.take i).flatten++ns.take j)).length:=by rw[Dw];omega
    refine aH _ Z _ Z p _ c _ Z Z (aP.of e3) (jh hcb.1 hct) (di _ _ Z Z (bT _ Z _ Z (tK p _ c c.toNat Z Z e3 ?_ (cz s3 hp0) ?_ ⟨_,Z⟩)))
    ·rw[List.length_map,Dw];unfold Jh;rw[if_pos hcb.1,if_pos (by omega)]
    ·rw[ak,<-List.map_set,Jd hcb.1 hcb.2,List.append_assoc,List.take_add_one,hc];rfl
   ·rintro σ H3 ⟨s3,e3,v3,rfl⟩;refine JS s3 ?_ (Qx _ _ Z);rw[List.length_map,List.take_length] at e3;rw[e3,sI rows i ns hn]
  ·rintro σ H2 ⟨s2,e2,v2,v3,rfl⟩;refine⟨_,Z,k p H2 s2 hp0 ?_⟩;rw[e2,List.length_map,pic.len,c7,List.take_length,Ke]
theorem Az:aL ["_law_picture_here"] ["_law_picture_here"] (aA qd):=by walk_at "s"
theorem An{f:Addr}{fd:FuncData}(F:bf K "_law_used" "_law_used" qd .none f fd)(T:Txt K mg cFE cC cN cM cP cL cB cD cZ tP tS tC tI)(g__law_counts:jA P w K mg base 1 "_law_counts" ["_law_picture_here"] [] (vQ)):bD P w K mg base gG 2 f fd ["_law_picture_here"] (Cj):=by
 refine F.ok Az (fun vs H Q E h=>?_) (fun cdv A outer s H vs Q E hr h=>?_)
 ·refine gn h fun a ps rows wd e4_ _=>?_;subst e4_;rfl
 ·refine jq h fun a ps rows wd e4_ pic gd k=>?_;subst e4_;refine⟨_,(az (aN (bH (N:=["_law_cell","_law_picture_here"]) (src:=[none,some 0]) Z ⟨Z,Z,Z,Z,Z,by decide+kernel⟩ (eE Z T.range (aa aq aj)) (fun s H C fp=>aJ (i:=0) (show(["_law_cell","_law_picture_here"]:List Str).Nodup by decide+kernel) Z (by walk_at "o")) (fun s H C fp=>(kO (aW rm (bw (lJ K Z) (aD g__law_counts (hr.mono (by decide)) Z (aa (pv 1) aj)) (pv 0) (fun _ _=>Z)) aq (aZ _)))) (fun s H C fp=>(pv 0))))),?_⟩;refine kJ _ Z (by decide) (by decide) fun D hD=>?_;refine bR (k:=0) (fun v=>v) (Oq (cns rows)) (src_range (lo:=0) (n:=16)) (by simp;decide) hD (fun x hx H' Qb sm kk=>?_) (fun x hx _ H' Q' sm kk=>⟨_,Z,kk H' (aC.refl _)⟩) fun H2 s2 hD2=>?_
  ·refine aO (List.mem_map.mp hx) fun i hi e2_=>?_;subst e2_;have hi':i<16:=by simpa using hi
   refine⟨_,Z,a,ps,rows,wd,Z,pic.mono sm,gd,fun p H1 s1 hp ep=>⟨_,Z,p,_,_,_,Z,Z,aP.of ep,jh (by omega) (by rw[dY];omega),_,_,Z,Z,_,Z,?_⟩⟩;exact kk H1 s1
  ·refine k D H2 s2 hD ?_;rw[hD2,rF]
theorem fc:aL ["_law_picture_here","_law_counts_here","_law_left","_law_found","_law_best","_law_cell"] ["_law_picture_here"] (aA nT):=by walk_at "s"
theorem za{f:Addr}{fd:FuncData}(F:bf K "_law_order" "_law_order" nT .none f fd)(T:Txt K mg cFE cC cN cM cP cL cB cD cZ tP tS tC tI)(g__law_counts:jA P w K mg base 1 "_law_counts" ["_law_picture_here"] [] (vQ)):bD P w K mg base gG 2 f fd ["_law_picture_here"] (Jz K):=by
 refine F.ok fc (fun vs H Q E h=>?_) (fun cdv A outer s H vs Q E hr h=>?_)
 ·refine gn h fun a ps rows wd e4_ _=>?_;subst e4_;rfl
 ·refine jq h fun a ps rows wd e4_ pic gd k=>?_;subst e4_;have hu:_+64<cLine:=hr.units
  refine⟨_,(ao (aK (i:=1) fc.nd Z (by walk_at "o") (aD g__law_counts (hr.mono (by decide)) Z (aa (pv 0) aj)))
    (ao (kI (ix:=2) (N:=["_law_cell","_law_counts_here"]) (src:=[none,some 1]) fc.nd Z Z Z ⟨Z,Z,Z,Z,Z,by decide+kernel⟩ (eE Z T.range (aa aq aj)) (fun s H C fp=>aJ (i:=0) (show(["_law_cell","_law_counts_here"]:List Str).Nodup by decide+kernel) Z (by walk_at "o")) (fun s H C fp=>(kO (aW rm (bw (lJ K Z) (pv 1) (pv 0) (fun _ _=>Z)) aq (aZ _)))) (fun s H C fp=>(pv 0)))
    (ao (aK (i:=3) fc.nd Z (by walk_at "o") (bW aj))
    (ao (Ac PassesOwn.never (aW (sS K Z hu) (pv 2) (bW aj) (aZ _)) (ao (aK (i:=4) fc.nd Z (by walk_at "o") (bw (lJ K Z) (pv 2) aq (fun _ _=>Z)))
    (ao (gm PassesOwn.never Z (oY K Z (pv 2)) (aJ (i:=5) fc.nd Z (by walk_at "o")) (az (bN (aW rm (bw (lJ K Z) (pv 1) (pv 5) (fun _ _=>Z)) (bw (lJ K Z) (pv 1) (pv 4) (fun _ _=>Z)) (aZ _)) (az (aK (i:=4) fc.nd Z (by walk_at "o") (pv 5))) aX)))
    (ao (bQ (ju PySem.F.plainAttrs_list PySem.F.slot_list_append PySem.F.type_list_append dg (pv 3) (aa (pv 4) aj)))
    (az (bQ (ju PySem.F.plainAttrs_list PySem.F.slot_list_remove PySem.F.type_list_remove BV (pv 2) (aa (pv 4) aj))))))))
    (az (aN (pv 3))))))),?_⟩
  refine cX _ Z a ps rows wd Z pic gd fun C H1 s1 hC eC=>?_;refine kJ _ Z (by decide) (by decide) fun L0 hL0=>?_;refine bR (k:=0) (fun v=>v) (Oq (cns rows)) (src_range (lo:=0) (n:=16)) (by simp;decide) hL0 (fun x hx H' Qb sm kk=>?_) (fun x hx _ H' Q' sm kk=>⟨_,Z,kk H' (aC.refl _)⟩) fun H2 s2 eL=>?_
  ·refine aO (List.mem_map.mp hx) fun i hi e2_=>?_;subst e2_;have hi':i<16:=by simpa using hi
   exact⟨_,Z,_,Z,C,_,_,_,Z,Z,aP.of (sm _ _ eC),jh (by omega) (by rw[dY];omega),_,_,Z,Z,_,Z,kk H' (aC.refl _)⟩
  rw[rF] at eL;refine⟨Nat.zero_le _,fun F0 hF0=>?_⟩;have s02:=s1.trans s2;have s03:=s02.trans (au (o:=HO.lst []) hF0);have fL:H L0=none:=s1.free hL0;have fF:H F0=none:=s02.free hF0;have nLF:L0≠F0:=aF eL hF0;have nCF:C≠F0:=aF (s2 _ _ eC) hF0;have nCL:C≠L0:=aF eC hL0
  refine Ax (fun σ H4=>∃(F L:List Int)(v4 v5:Option V),σ=[some (.ref a),some (.ref C),some (.ref L0),some (.ref F0),v4,v5]/\aC H H4/\H4 C=some (.lst ((cns rows).map V.int))/\H4 L0=some (.lst (L.map V.int))/\H4 F0=some (.lst (F.map V.int))/\qX (cns rows) F L) (fun σ H4=>JM H4 (σ.getD 2 none))
   (bx [] (fj (cns rows)) none none Z s03 (au hF0 _ _ (s2 _ _ eC)) (au hF0 _ _ eL) ak (qX.start _)) ?_ ?_
  ·rintro σ H4 ⟨F,L,v4,v5,rfl,s4,eC4,eL4,eF4,os⟩;have hmem:∀c∈L,c∈fj (cns rows):=fun c hc=>os.perm.mem_iff.mp (List.mem_append_right _ hc)
   have hFl:F.length<=16:=by have h1:=os.perm.length_eq;have h2:=oG (cns rows);rw[dY] at h2;rw[List.length_append] at h1;omega
   refine dU _ Z (Nat.zero_le _) fun e he=>aU 0 L0 e _ (by decide) Z Z (GD.nil (aP.of (au he _ _ eL4)) (aP.of ak)) (fB _ Z (uc (fun h=>?_) (fun h=>?_)))
   ·have z:=au (o:=HO.lst []) he;have s5:=s4.trans z;have eC5:=z _ _ eC4;have eL5:=z _ _ eL4;have eF5:=z _ _ eF4;generalize upd H4 e (HO.lst [])=H5 at z s5 eC5 eL5 eF5⊢
    obtain⟨b0,L1,rfl⟩:∃b0 L1,L=b0::L1:=by
     cases L with
     | nil=>exact absurd Z (of_decide_eq_false h)
     | cons b0 L1=>exact⟨b0,L1,Z⟩
    refine bh _ Z L0 _ 0 (.int b0) Z Z (aP.of eL5) (aQ (j:=0) Z) ?_;refine bc _ Z L0 Z ⟨_,aP.of eL5⟩ ?_;refine j7 (xs:=(b0::L1).map V.int) (fun i σ H6=>H6=H5/\∃(b:Int)(v5:Option V),σ=[some (.ref a),some (.ref C),some (.ref L0),some (.ref F0),some (.int b),v5]/\Kl (cns rows) (b0::L1) i b) ⟨Z,mF b0 v5 Z ⟨⟨0,Z,Nat.le_refl _⟩,fun c hc=>nomatch hc⟩⟩ (fun i σ H6 _ q=>by rw[q.1];exact aP.of eL5) ?_ ?_
    ·rintro i x σ H6 hx ⟨rfl,b,v5,rfl,bs⟩;rw[List.getElem?_map] at hx;refine aO (Option.map_eq_some_iff.mp hx) fun c hc e2_=>?_;subst e2_;have cu:=dW.mp (hmem c (List.mem_of_getElem? hc));refine aO bs.at' fun kb hkb _=>?_;have bu:=dW.mp (hmem b (List.mem_of_getElem? hkb));refine aH _ Z _ Z C _ _ _ Z Z (aP.of eC5) (jh cu.1 cu.2.1) (aH _ Z _ Z C _ _ _ Z Z (aP.of eC5) (jh bu.1 bu.2.1) (fZ _ _ Z Z _ Z (nZ (fun h=>⟨_,Z,?_⟩) (fun h=>?_))))
     ·exact⟨Z,mF c _ Z (bs.up hc (of_decide_eq_true h))⟩
     ·exact⟨Z,mF b _ Z (bs.stay os.asc hc (of_decide_eq_false h))⟩
    ·rintro σ H6 ⟨rfl,b,v5,rfl,bs⟩;rw[List.length_map] at bs;obtain⟨hb,hbest⟩:=bs.done;refine dz _ Z (.inl ⟨Z,_,aP.of eF5⟩) _ Z (eH F0 _ _ Z Z eF5 (by rw[List.length_map];exact Nat.lt_of_le_of_lt hFl (by decide)) ?_);have eL6:upd H6 F0 (.lst (F.map V.int++[.int b])) L0=some (.lst ((b0::L1).map V.int)):=by rw[aB nLF];exact eL5
     have eC6:upd H6 F0 (.lst (F.map V.int++[.int b])) C=some (.lst ((cns rows).map V.int)):=by rw[aB nCF];exact eC5
     have eF6:upd H6 F0 (.lst (F.map V.int++[.int b])) F0=some (.lst ((F++[b]).map V.int)):=by rw[ak,List.map_append];rfl
     have s6:aC H (upd H6 F0 (.lst (F.map V.int++[.int b]))):=cz s5 fF;generalize upd H6 F0 (HO.lst (F.map V.int++[V.int b]))=H7 at eL6 eC6 eF6 s6⊢;refine dz _ Z (.inl ⟨Z,_,aP.of eL6⟩) _ Z (eH L0 (b0::L1) b Z Z eL6 hb ?_);refine⟨bx (F++[b]) ((b0::L1).erase b) _ _ Z (cz s6 fL) (by rw[aB nCL];exact eC6) ak (by rw[aB (Ne.symm nLF)];exact eF6) (os.step hb hbest),?_⟩;show JM (upd H7 L0 (.lst (((b0::L1).erase b).map V.int))) (some (.ref L0))<JM H4 (some (.ref L0));rw[DR ak,DR eL4,List.length_map,List.length_map,List.length_erase_of_mem hb,List.length_cons];omega
   ·have hL:L=[]:=by simpa using of_decide_eq_true h
    subst hL;have z:=au (o:=HO.lst []) he;exact⟨_,Z,k F0 F _ (s4.trans z) fF os.done (z _ _ eF4)⟩
  ·exact qK (fun σ H Q Q' h q=>by refine bL q fun v e hz q=>?_;refine dU v e hz fun l hl=>?_;refine dG (q l hl) fun n p q' b hn e1 e2 el k=>?_;exact aU n p q' b hn e1 e2 el (h _ _ k))
end
noncomputable def zQ:Sp:=fun vs H Q _=>∃a r g b a' r' g' b',vs=[.ref a,.ref a']/\jD H a r g b/\jD H a' r' g' b'/\Q (.int (qP r g b r' g' b')) H
structure Lst(cs L:List Int)(i:Nat)(b:Int):Prop where
 at':∃k:Nat,L[k]? =some b/\k<=i
 le:∀c∈L.take i,cs.getD b.toNat 0<cs.getD c.toNat 0\/(cs.getD b.toNat 0=cs.getD c.toNat 0/\c<=b)
theorem J1{L:List Int}(asc:L.Pairwise (·<·)){i:Nat}{c x:Int}(h:L[i]? =some c)(hx:x∈L.take i):x<c:=by obtain⟨k,hk,rfl⟩:=List.getElem_of_mem hx;obtain⟨h2,e2⟩:=List.getElem?_eq_some_iff.mp h;rw[List.length_take] at hk;rw[List.getElem_take,<-e2];exact List.pairwise_iff_getElem.mp asc k i (by omega) h2 (by omega)
theorem Lst.up {cs L:List Int} (asc:L.Pairwise (·<·)) {i:Nat} {b c:Int} (s:Lst cs L i b) (h:L[i]? =some c) (hle:cs.getD c.toNat 0<=cs.getD b.toNat 0):Lst cs L (i+1) c:=
 ⟨⟨i,h,Nat.le_succ _⟩,fun x hx=>by
  rcases jj h hx with hx | rfl
  ·have:=s.le x hx;have:=J1 asc h hx;omega
  ·exact .inr ⟨Z,Int.le_refl _⟩⟩
theorem Lst.stay {cs L:List Int} {i:Nat} {b c:Int} (s:Lst cs L i b) (h:L[i]? =some c) (hle:¬cs.getD c.toNat 0<=cs.getD b.toNat 0):Lst cs L (i+1) b:=by
 refine aO s.at' fun k hk hki=>?_;refine⟨⟨k,hk,by omega⟩,fun x hx=>?_⟩;rcases jj h hx with hx | rfl
 ·exact s.le x hx
 ·omega
theorem Lst.done {cs:List Int} {b:Int} (s:Lst cs (fj cs) (fj cs).length b):yd cs b:=by refine aO s.at' fun k hk _=>?_;exact⟨List.mem_of_getElem? hk,fun c hc=>s.le c (by rw[List.take_length];exact hc)⟩
theorem Ln{cols:List (C4)}{cs:List Int}{g:Int}{h:Int}(hj:((fj cs).filter fun o=>decide (o≠g))[gK (((fj cs).filter fun o=>decide (o≠g)).map fun o=>dst cols o g)]? =some h)(ne:(fj cs).filter (fun o=>decide (o≠g))≠[]):Gb cols cs g h:=by
 have hm:=List.mem_filter.mp (List.mem_of_getElem? hj);refine⟨hm.1,by simpa using hm.2,fun o ho hne=>?_⟩;have ho':o∈(fj cs).filter (fun o=>decide (o≠g)):=List.mem_filter.mpr ⟨ho,by simpa using hne⟩;generalize hO:(fj cs).filter (fun o=>decide (o≠g))=O at hj ne ho';have asc:O.Pairwise (·<·):=by rw[<-hO];exact(lB cs).filter _
 have ne':O.map (fun o=>dst cols o g)≠[]:=by simpa using ne
 have a1:=rK ne';have e1:(O.map fun o=>dst cols o g)[gK (O.map fun o=>dst cols o g)]? =some (dst cols h g):=by rw[List.getElem?_map,hj];rfl
 rw[e1] at a1;have a2:dst cols h g=qi (O.map fun o=>dst cols o g):=Option.some.inj a1;have a3:=J8 ne' (dst cols o g) (List.mem_map_of_mem ho');rw[Br cols g h,Br cols g o];by_cases z:dst cols h g<dst cols o g
 ·exact .inl z
 ·refine .inr ⟨by omega,?_⟩;obtain⟨i,hi,rfl⟩:=List.getElem_of_mem ho';obtain⟨hj1,hj2⟩:=List.getElem?_eq_some_iff.mp hj;by_cases hlt:i<gK (O.map fun o=>dst cols o g)
  ·exact absurd (show dst cols O[i] g=_ by omega) (pQ hlt (by rw[List.getElem?_map,List.getElem?_eq_getElem hi];rfl))
  ·by_cases he:i=gK (O.map fun o=>dst cols o g)
   ·subst he;rw[hj2];exact Int.le_refl _
   ·have:=List.pairwise_iff_getElem.mp asc _ i hj1 hi (by omega);omega
theorem yL{cols:List (C4)}{c:Int}(h0:0<=c)(h1:c.toNat<cols.length):GJ (cols.map fun c=>V.ref c.1) c=some (.ref (cj cols c).1):=by obtain⟨n,rfl⟩:∃n:Nat,c=(n:Int):=⟨c.toNat,by omega⟩;refine aQ (j:=n) ?_;rw[List.getElem?_map,show cols[n]? =some (cj cols (n:Int)) from mz h1];rfl
noncomputable def Ja(K:W.Frag):Sp:=fun vs H Q _=>∃(a o:Addr)(ps:List Addr)(rows:List (List Int))(wd:Nat)(cols:List (C4)),vs=[.ref a,.ref o]/\bj H a ps (ir rows)/\Good rows wd/\bA H o cols/\(∀c∈fj (cns rows),c.toNat<cols.length)/\2<=(fj (cns rows)).length/\∀q qs R H',aC H H'->H q=none->oN H qs->sJ cols rows R->bj H' q qs (ir R)->Q (.ref q) H'
section
variable{P:Program}{w:World}{K:W.Frag}{mg:Str->Option Value}{base:Heap}{cFE cC cN cM cP cL cB cD cZ:Addr}{tP tS tC tI:Tok}
theorem jK:aL ["_law_one","_law_other","_law_found","_law_k"] ["_law_one","_law_other"] (aA ou):=by walk_at "s"
theorem yK{f:Addr}{fd:FuncData}(F:bf K "_law_apart" "_law_apart" ou .none f fd)(T:Txt K mg cFE cC cN cM cP cL cB cD cZ tP tS tC tI):bD P w K mg base gG 1 f fd ["_law_one","_law_other"] (zQ):=by
 refine F.ok jK (fun vs H Q E h=>?_) (fun cdv A outer s H vs Q E hr h=>?_)
 ·refine zb h fun a r p2_=>?_;obtain⟨g,b,a',r',g',b',rfl,_⟩:=p2_;rfl
 ·refine zb h fun a r p2_=>?_;obtain⟨g,b,a',r',g',b',rfl,c,c',k⟩:=p2_
  refine⟨_,(ao (aK (i:=2) jK.nd Z (.inl Z) aq)
    (ao (gm PassesOwn.never Z (eE Z T.range (aa aq aj)) (aJ (i:=3) jK.nd Z (.inl Z)) (az (aK (i:=2) jK.nd Z (.inl Z) (aG dw (pv 2) (aG yx (aG pY (bw (tV K Z) (pv 0) (pv 3) (fun _ _=>Z)) (bw (tV K Z) (pv 1) (pv 3) (fun _ _=>Z))) aq)))))
    (az (aN (pv 2))))),?_⟩
  refine kJ _ Z (by decide) (by decide) ?_;refine mC (lo:=0) (n:=3) (fun i σ H3=>H3=H/\∃v3:Option V,σ=[some (.ref a),some (.ref a'),some (.int ([0,0+zJ r r',0+zJ r r'+zJ g g',0+zJ r r'+zJ g g'+zJ b b'].getD i 0)),v3]) ⟨Z,none,Z⟩ ?_ ?_
  ·rintro i σ H3 hi ⟨rfl,v3,rfl⟩;have top:=c.top;have top':=c'.top;have bd:∀{m n:Nat},m<=255->n<=255->((m:Int) - (n:Int)).natAbs<2 ^ 64:=fun{m n} h1 h2=>by omega
   match i,hi with
   | 0,_=>exact fB _ Z (aH _ Z _ Z a _ _ _ Z Z (d7.of top) (aQ (j:=0) Z) (aH _ Z _ Z a' _ _ _ Z Z (d7.of top') (aQ (j:=0) Z) (du _ _ Z Z _ _ Z Z ⟨by decide,by decide,bd c.lr c'.lr⟩ (cR _ _ Z Z Z ⟨some (.int 0),Z⟩))))
   | 1,_=>exact fB _ Z (aH _ Z _ Z a _ _ _ Z Z (d7.of top) (aQ (j:=1) Z) (aH _ Z _ Z a' _ _ _ Z Z (d7.of top') (aQ (j:=1) Z) (du _ _ Z Z _ _ Z Z ⟨by decide,by decide,bd c.lg c'.lg⟩ (cR _ _ Z Z Z ⟨some (.int 1),Z⟩))))
   | 2,_=>exact fB _ Z (aH _ Z _ Z a _ _ _ Z Z (d7.of top) (aQ (j:=2) Z) (aH _ Z _ Z a' _ _ _ Z Z (d7.of top') (aQ (j:=2) Z) (du _ _ Z Z _ _ Z Z ⟨by decide,by decide,bd c.lb c'.lb⟩ (cR _ _ Z Z Z ⟨some (.int 2),Z⟩))))
  ·rintro σ H3 ⟨rfl,v3,rfl⟩;have e:qP r g b r' g' b'=0+zJ r r'+zJ g g'+zJ b b':=by simp only[qP,List.sum_cons,List.sum_nil];omega
   rw[e] at k;exact⟨_,Z,k⟩
theorem bV:aL ["_law_picture_here","_law_colours","_law_counts_here","_law_used_here","_law_gone","_law_cell","_law_others","_law_ways","_law_heir"] ["_law_picture_here","_law_colours"] (aA jT):=by walk_at "s"
theorem tU{f:Addr}{fd:FuncData}(F:bf K "_law_one_less" "_law_one_less" jT .none f fd)(T:Txt K mg cFE cC cN cM cP cL cB cD cZ tP tS tC tI)(g__law_counts:jA P w K mg base 1 "_law_counts" ["_law_picture_here"] [] (vQ))(g__law_apart:jA P w K mg base 1 "_law_apart" ["_law_one","_law_other"] [] (zQ)):bD P w K mg base gG 2 f fd ["_law_picture_here","_law_colours"] (Ja K):=by
 refine F.ok bV (fun vs H Q E h=>?_) (fun cdv A outer s H vs Q E hr h=>?_)
 ·refine dZ h fun a o ps rows wd cols e6_ _=>?_;subst e6_;rfl
 ·refine dZ h fun a o ps rows wd cols e6_ p7_=>?_;subst e6_;obtain⟨pic,gd,co,hlt,h2,k⟩:=p7_;have hu:_+64<cLine:=hr.units
  refine⟨_,(ao (aK (i:=2) bV.nd Z (by walk_at "o") (aD g__law_counts (hr.mono (by decide)) Z (aa (pv 0) aj)))
    (ao (kI (ix:=3) (N:=["_law_cell","_law_counts_here"]) (src:=[none,some 2]) bV.nd Z Z Z ⟨Z,Z,Z,Z,Z,by decide+kernel⟩ (eE Z T.range (aa aq aj)) (fun s H C fp=>aJ (i:=0) (show(["_law_cell","_law_counts_here"]:List Str).Nodup by decide+kernel) Z (by walk_at "o")) (fun s H C fp=>(kO (aW rm (bw (lJ K Z) (pv 1) (pv 0) (fun _ _=>Z)) aq (aZ _)))) (fun s H C fp=>(pv 0)))
    (ao (aK (i:=4) bV.nd Z (by walk_at "o") (bw (lJ K Z) (pv 3) aq (fun _ _=>Z)))
    (ao (gm PassesOwn.never Z (oY K Z (pv 3)) (aJ (i:=5) bV.nd Z (by walk_at "o")) (az (bN (aW HJ (bw (lJ K Z) (pv 2) (pv 5) (fun _ _=>Z)) (bw (lJ K Z) (pv 2) (pv 4) (fun _ _=>Z)) (aZ _)) (az (aK (i:=4) bV.nd Z (by walk_at "o") (pv 5))) aX)))
    (ao (kI (ix:=6) (N:=["_law_cell","_law_gone"]) (src:=[none,some 4]) bV.nd Z Z Z ⟨Z,Z,Z,Z,Z,by decide+kernel⟩ (oY K Z (pv 3)) (fun s H C fp=>aJ (i:=0) (show(["_law_cell","_law_gone"]:List Str).Nodup by decide+kernel) Z (by walk_at "o")) (fun s H C fp=>(kO (aW xg (pv 0) (pv 1) (aZ _)))) (fun s H C fp=>(pv 0)))
    (ao (kI (ix:=7) (N:=["_law_cell","_law_colours","_law_gone"]) (src:=[none,some 1,some 4]) bV.nd Z Z Z ⟨Z,Z,Z,Z,Z,by decide+kernel⟩ (oY K Z (pv 6)) (fun s H C fp=>aJ (i:=0) (show(["_law_cell","_law_colours","_law_gone"]:List Str).Nodup by decide+kernel) Z (by walk_at "o")) (fun s H C fp=>bF) (fun s H C fp=>(aD g__law_apart (hr.mono (by decide)) Z (aa (bw (lJ K Z) (pv 1) (pv 0) (fun _ _=>Z)) (aa (bw (lJ K Z) (pv 1) (pv 2) (fun _ _=>Z)) aj)))))
    (ao (aK (i:=8) bV.nd Z (by walk_at "o") (bw (lJ K Z) (pv 6) (ju PySem.F.plainAttrs_list PySem.F.slot_list_index PySem.F.type_list_index (oV K Z 1 (by decide) hu) (pv 7) (aa (aR (FQ K Z Z) Z T.min PyProof.Rows.boot_min (aa (pv 7) aj)) aj)) (fun _ _=>Z)))
    (az (aN (bH (N:=["_law_row","_law_gone","_law_heir"]) (src:=[none,some 4,some 8]) Z ⟨Z,Z,Z,Z,Z,by decide+kernel⟩ (oY K Z (pv 0)) (fun s H C fp=>aJ (i:=0) (show(["_law_row","_law_gone","_law_heir"]:List Str).Nodup by decide+kernel) Z (by walk_at "o")) (fun s H C fp=>bF) (fun s H C fp=>(bH (N:=["_law_cell","_law_gone","_law_heir"]) (src:=[none,some 1,some 2]) Z ⟨Z,Z,Z,Z,Z,by decide+kernel⟩ (oY K Z (pv 0)) (fun s H C fp=>aJ (i:=0) (show(["_law_cell","_law_gone","_law_heir"]:List Str).Nodup by decide+kernel) Z (by walk_at "o")) (fun s H C fp=>bF) (fun s H C fp=>(vD (aW nC (pv 0) (pv 1) (aZ _)) (pv 2) (pv 0))))))))))))))),?_⟩
  refine cX _ Z a ps rows wd Z pic gd fun C H1 s1 hC eC=>?_;refine kJ _ Z (by decide) (by decide) fun U hU=>?_;refine bR (k:=0) (fun v=>v) (Oq (cns rows)) (src_range (lo:=0) (n:=16)) (by simp;decide) hU (fun x hx H' Qb sm kk=>?_) (fun x hx _ H' Q' sm kk=>⟨_,Z,kk H' (aC.refl _)⟩) fun H2 s2 eU=>?_
  ·refine aO (List.mem_map.mp hx) fun i hi e2_=>?_;subst e2_;have hi':i<16:=by simpa using hi
   exact⟨_,Z,_,Z,C,_,_,_,Z,Z,aP.of (sm _ _ eC),jh (by omega) (by rw[dY];omega),_,_,Z,Z,_,Z,kk H' (aC.refl _)⟩
  rw[rF] at eU;have s02:=s1.trans s2;have eC2:=s2 _ _ eC;obtain⟨b0,hb0⟩:∃b0,(fj (cns rows))[0]? =some b0:=⟨_,List.getElem?_eq_getElem (by omega)⟩;have hum:∀c∈fj (cns rows),0<=c/\c.toNat<(cns rows).length:=fun c hc=>⟨(dW.mp hc).1,(dW.mp hc).2.1⟩;refine bh _ Z U _ 0 (.int b0) Z Z (aP.of eU) (aQ (j:=0) (by rw[List.getElem?_map,hb0];rfl)) ?_;refine bc _ Z U Z ⟨_,aP.of eU⟩ ?_;refine j7 (xs:=(fj (cns rows)).map V.int) (fun i σ H6=>H6=H2/\∃(b:Int)(v5:Option V),σ=[some (.ref a),some (.ref o),some (.ref C),some (.ref U),some (.int b),v5,none,none,none]/\Lst (cns rows) (fj (cns rows)) i b) ⟨Z,mF b0 none Z ⟨⟨0,hb0,Nat.le_refl _⟩,fun c hc=>nomatch hc⟩⟩ (fun i σ H6 _ q=>by rw[q.1];exact aP.of eU) ?_ ?_
  ·rintro i x σ H6 hx ⟨rfl,b,v5,rfl,bs⟩;rw[List.getElem?_map] at hx;refine aO (Option.map_eq_some_iff.mp hx) fun c hc e2_=>?_;subst e2_;have cu:=hum c (List.mem_of_getElem? hc);refine aO bs.at' fun kb hkb _=>?_;have bu:=hum b (List.mem_of_getElem? hkb);refine aH _ Z _ Z C _ _ _ Z Z (aP.of eC2) (jh cu.1 cu.2) (aH _ Z _ Z C _ _ _ Z Z (aP.of eC2) (jh bu.1 bu.2) (fZ _ _ Z Z _ Z (nZ (fun h=>⟨_,Z,?_⟩) (fun h=>?_))))
   ·exact⟨Z,mF c _ Z (bs.up (lB _) hc (of_decide_eq_true h))⟩
   ·exact⟨Z,mF b _ Z (bs.stay hc (of_decide_eq_false h))⟩
  ·rintro σ H6 ⟨rfl,g,v5,rfl,bs⟩;rw[List.length_map] at bs;have lst:=bs.done;have gu:=dW.mp lst.1;have co6:=co.mono s02;have pic6:=pic.mono s02;have hlg:=hlt g lst.1;refine bc _ Z U Z ⟨_,aP.of eU⟩ fun O hO=>?_;refine bR (k:=0) (fun v=>v) (fun v=> !decide (v= .int g)) (src_list (aP.of eU)) (by rw[List.length_map];exact Nat.le_trans (oG _) (by rw[dY];decide)) hO (fun x hx H' Qb _ kk=>?_) (fun x hx _ H' Q' sm kk=>⟨_,Z,kk H' (aC.refl _)⟩) fun H7 s7 eO=>?_
   ·refine aO (List.mem_map.mp hx) fun c _ e2_=>?_;subst e2_;exact⟨_,Z,_,Z,Z,_,Z,kk H' (aC.refl _)⟩
   have eO':H7 O=some (.lst (((fj (cns rows)).filter fun o=>decide (o≠g)).map V.int)):=by
    rw[eO,List.map_id',List.filter_map]
    congr 3
    refine List.filter_congr fun o _=>?_;simp
   have one:=wZ (g:=g) h2;have near:=Ln (cols:=cols) (cs:=cns rows) (g:=g) (h:=((fj (cns rows)).filter fun o=>decide (o≠g)).getD (gK (((fj (cns rows)).filter fun o=>decide (o≠g)).map fun o=>dst cols o g)) 0);have hOl:((fj (cns rows)).filter fun o=>decide (o≠g)).length<=16:=Nat.le_trans (List.length_filter_le _ _) (by have:=oG (cns rows);rw[dY] at this;exact this);have hOm:∀c∈(fj (cns rows)).filter fun o=>decide (o≠g),c∈fj (cns rows):=fun c hc=>(List.mem_filter.mp hc).1;generalize hOO:((fj (cns rows)).filter fun o=>decide (o≠g))=OO at eO' one near hOl hOm;have co7:=co6.mono s7;refine bc _ Z O Z ⟨_,aP.of eO'⟩ fun W hW=>?_;refine bR (k:=0) (fun v=>match v with | .int c=> .int (dst cols c g) | _=> .non) (fun _=>true) (src_list (aP.of eO')) (by rw[List.length_map];exact Nat.le_trans hOl (by decide)) hW (fun x _ H' Qb _ kk=>kk H' (aC.refl _)) (fun x hx _ H' Q' sm kk=>?_) fun H8 s8 eW=>?_
   ·refine aO (List.mem_map.mp hx) fun c hc e2_=>?_;subst e2_;have cu:=dW.mp (hOm c hc);have hlc:=hlt c (hOm c hc);have co':=co7.mono sm;exact aH _ Z _ Z o _ c _ Z Z (aP.of co'.1) (yL cu.1 hlc) (aH _ Z _ Z o _ g _ Z Z (aP.of co'.1) (yL gu.1 hlg) (gb _ _ _ _ _ _ (cR _ _ Z (co'.2 _ (jP hlc)) (co'.2 _ (jP hlg)) (kk H' (aC.refl _)))))
   have eW':H8 W=some (.lst ((OO.map fun c=>dst cols c g).map V.int)):=by rw[eW,cU,List.map_map,List.map_map];rfl
   have eO8:=s8 _ _ eO';have wne:OO.map (fun c=>dst cols c g)≠[]:=by simpa using one
   have hfi:gK (OO.map fun c=>dst cols c g)<OO.length:=by
    have:=(List.getElem?_eq_some_iff.mp (rK wne)).1
    rwa [List.length_map] at this
   have hh:OO[gK (OO.map fun c=>dst cols c g)]? =some (OO.getD (gK (OO.map fun c=>dst cols c g)) 0):=by rw[List.getD_eq_getElem?_getD,List.getElem?_eq_getElem hfi];rfl
   have near:=near hh one;generalize OO.getD (gK (OO.map fun c=>dst cols c g)) 0=h' at hh near;refine bc _ Z _ Z (.inl ⟨Z,_,aP.of eW'⟩) (aM _ Z W _ Z (aP.of eW') wne ?_)
   dsimp only[nU]
   refine BW eW' wne ?_;refine aU O _ _ (.int h') Z Z (aP.of eO8) (aQ (by rw[List.getElem?_map,hh];rfl)) ?_;have s08:=s02.trans (s7.trans s8);have pic:=pic.mono s08;have hl:rows.length<=1000:=Nat.le_trans gd.le (by decide);have hr1:∀r∈rows,r.length<=1000:=fun r hr'=>by rw[(gd.row r hr').1];exact Nat.le_trans gd.w24 (by decide)
   clear s7 s8 eO eW pic6 co6 co7 eO' eW' eO8 eU eC2 eC hC hU s1 s2;generalize H8=H8 at *;refine bc _ Z a Z ⟨_,aP.of pic.top⟩ fun D hD=>?_;have hlen:=pic.row.length;rw[c7] at hlen;refine jd (k:=0) (fun x=>match rowOf H8 x with | some r=>r.map fun v=>if v= .int g then V.int h' else v | none=>[]) (src_list (aP.of pic.top)) (by rw[List.length_map,hlen];exact Nat.le_trans hl (by decide)) hD (fun x hx H1 Q1 s1 kk=>?_) fun qs H1 s1 fr pq=>?_
   ·refine aO (List.mem_map.mp hx) fun q hq e2_=>?_;subst e2_;obtain⟨i,hi⟩:=List.getElem?_of_mem hq;refine aO (pic.at hi) fun r hr' eq=>?_;unfold ir at hr';rw[List.getElem?_map] at hr';refine aO (Option.map_eq_some_iff.mp hr') fun r0 hr0 e2_=>?_;subst e2_;have eq1:=s1 _ _ eq;refine bc _ Z q Z ⟨_,aP.of eq1⟩ fun D1 hD1=>?_;refine bR (k:=0) (fun v=>if v= .int g then V.int h' else v) (fun _=>true) (src_list (aP.of eq1)) (by rw[List.length_map];exact Nat.le_trans (hr1 r0 (List.mem_of_getElem? hr0)) (by decide)) hD1 (fun x _ H' Qb _ kk=>kk H' (aC.refl _)) (fun x hx _ H2 Q2 s2 k2=>?_) fun H2 s2 hD2=>?_
    ·refine aO (List.mem_map.mp hx) fun c _ e2_=>?_;subst e2_;have tt:=k2 H2 (aC.refl _);refine fB _ Z (dz _ Z Z _ Z ?_);refine nZ (fun h=>⟨_,Z,?_⟩) (fun h=>⟨_,Z,?_⟩)
     ·rw[if_pos (of_decide_eq_true h)] at tt;exact tt
     ·rw[if_neg (of_decide_eq_false h)] at tt;exact tt
    ·refine kk D1 H2 s2 hD1 ?_;rw[hD2,cU];rw[aV eq]
   ·have e3:(ps.map V.ref).map (fun x=>match rowOf H8 x with | some r=>r.map fun v=>if v= .int g then V.int h' else v | none=>[])=ir (chg rows g h'):=by
     rw[jt (φ:=fun r=>r.map fun v=>if v= .int g then V.int h' else v) (fun q r e=>by rw[aV e]) ps _ pic.row];unfold ir chg;rw[List.map_map,List.map_map];refine List.map_congr_left fun r _=>?_;simp only[Function.comp,List.map_map];refine List.map_congr_left fun c _=>?_;simp only[Function.comp,V.int.injEq]
     split<;>rfl
    rw[e3] at pq;exact k D qs (chg rows g h') H1 (s08.trans s1) (s08.free hD) (fun x hx=>s08.free (fr x hx)) (di g h' lst near Z) pq
end
theorem Ff{K:W.Frag}{H:Hp}{a:Addr}{xs:List V}(e:H a=some (.tup xs)):Kh K H (.ref a) (.type "tuple") true:=by
 have:=(Kd.tup (K:=K) e).isTuple;have h:JR H (.ref a)=true:=by simp only[JR,e]
 rw[h] at this;exact this
noncomputable def Oz(K:W.Frag):Sp:=fun vs H Q _=>∃a ps rows wd,vs=[.ref a]/\bj H a ps (ir rows)/\Good rows wd/\∀H',aC H H'->Q (.bl true) H'
theorem xU{ns:List Int}:∀x∈ns.map V.int,(∃a,x= .ref a)\/jZ x=true:=fun x hx=>by refine aO (List.mem_map.mp hx) fun n _ e2_=>?_;subst e2_;exact .inr Z
theorem FJ{H:Hp}{a:Addr}{ps:List Addr}{rows:List (List Int)}{order:List Int}(pic:bj H a ps (ir rows)):(ps.map V.ref).map (fun x=>((rowOf H x).getD []).map fun v=>match v with | .int c=>V.int ((order.idxOf c:Nat):Int) | _=> .non)=ir (iT order rows):=by rw[jt (φ:=fun r=>r.map fun v=>match v with | .int c=>V.int ((order.idxOf c:Nat):Int) | _=> .non) (fun q r e=>by rw[aV e];rfl) ps _ pic.row];unfold ir iT;rw[List.map_map,List.map_map];refine List.map_congr_left fun r _=>?_;simp only[Function.comp,List.map_map];rfl
noncomputable def Qs(K:W.Frag)(cL:Addr)(ms:nQ):Sp:=fun vs H Q _=>∃(a o p l:Addr)(ps:List Addr)(rows:List (List Int))(wd:Nat)(cols:List (C4)),vs=[.ref a,.ref o,.ref p]/\bj H a ps (ir rows)/\Good rows wd/\bA H o cols/\fW cL H p l cols/\dH rows.flatten<(cols.length:Int)/\(cols.map kc).Nodup/\cols.length<=24/\gr ms H/\∀H',Ok ms H H'->Q (.bl true) H'
section
variable{P:Program}{w:World}{K:W.Frag}{mg:Str->Option Value}{base:Heap}{cFE cC cN cM cP cL cB cD cZ:Addr}{tP tS tC tI:Tok}
theorem j8:aL ["_law_picture_here","_law_found"] ["_law_picture_here"] (aA iH):=by walk_at "s"
theorem qg{f:Addr}{fd:FuncData}(F:bf K "_law_counts_good" "_law_counts_good" iH .none f fd)(T:Txt K mg cFE cC cN cM cP cL cB cD cZ tP tS tC tI)(g_cell_counts:DefX P w K mg base 9 "cell_counts" ["picture"] [] (Aw K cB))(g__law_whole:jA P w K mg base 1 "_law_whole" ["_law_found"] [] (yt))(g__law_counts:jA P w K mg base 1 "_law_counts" ["_law_picture_here"] [] (vQ)):bD P w K mg base gG 10 f fd ["_law_picture_here"] (Oz K):=by
 refine F.ok j8 (fun vs H Q E h=>?_) (fun cdv A outer s H vs Q E hr h=>?_)
 ·refine gn h fun a ps rows wd e4_ _=>?_;subst e4_;rfl
 ·refine jq h fun a ps rows wd e4_ pic gd k=>?_;subst e4_;have hu:_+64<cLine:=hr.units
  refine⟨_,(ao (aK (i:=1) j8.nd Z (by walk_at "o") (bB g_cell_counts (hr.mono (by decide)) jc Z (aa (pv 0) aj)))
    (ao (bN (PW.pt (jw (cW (bU (sO K Z (pv 1) Z T.isinstance Z T.list PyProof.Rows.boot_list))) (iG (cW (bU (aR (zc K Z Z) Z T.all PyProof.Rows.boot_all (aa (bH (N:=["_law_number"]) (src:=[none]) Z ⟨Z,Z,Z,Z,Z,by decide+kernel⟩ (oY K Z (pv 1)) (fun s H C fp=>aJ (i:=0) (show(["_law_number"]:List Str).Nodup by decide+kernel) Z (by walk_at "o")) (fun s H C fp=>bF) (fun s H C fp=>(aD g__law_whole (hr.mono (by decide)) Z (aa (pv 0) aj)))) aj))))))) (az (aN fM)) aX)
    (ao (bN (aW (sS K Z hu) (pv 1) (aD g__law_counts (hr.mono (by decide)) Z (aa (pv 0) aj)) (aZ _)) (az (aN fM)) aX)
    (ao (bQ (ju PySem.F.plainAttrs_list PySem.F.slot_list_append PySem.F.type_list_append dg (pv 1) (aa aq aj)))
    (az (aN (jH (Jc K Z hu) (bB g_cell_counts (hr.mono (by decide)) jc Z (aa (pv 0) aj)) (aD g__law_counts (hr.mono (by decide)) Z (aa (pv 0) aj)) (aZ _)))))))),?_⟩
  refine bT _ Z _ Z (.inl (fV a ps rows wd Z pic gd fun C H1 s1 hC eC=>?_));refine bG _ Z true (je eC) _ Z ?_;refine bc _ Z C Z ⟨_,aP.of eC⟩ fun D hD=>?_;refine bR (k:=0) (fun _=> .bl true) (fun _=>true) (src_list (aP.of eC)) (by rw[List.length_map,dY];decide) hD (fun x _ H' Qb _ kk=>kk H' (aC.refl _)) (fun x hx _ H' Q' sm kk=>?_) fun H2 s2 hD2=>?_
  ·refine aO (List.mem_map.mp hx) fun n _ e2_=>?_;subst e2_;exact bT _ Z n Z (kk H' (aC.refl _))
  have eD:H2 D=some (.lst ((((cns rows).map V.int).map fun _=>true).map V.bl)):=by rw[hD2,cU];simp only[List.map_map];rfl
  refine di D _ Z (aP.of eD) ?_;rw[ug];refine⟨_,Z,?_⟩;have s02:=s1.trans s2;refine fB _ Z (cX _ Z a ps rows wd Z (pic.mono s02) gd fun C2 H3 s3 hC2 eC2=>aU 0 C C2 true (by decide) Z Z (pB (s3 _ _ (s2 _ _ eC)) eC2 xU) (fB _ Z ?_));have s03:=s02.trans s3;refine dU _ Z (.inl ⟨Z,_,aP.of (s3 _ _ (s2 _ _ eC))⟩) (eH C _ _ Z Z (s3 _ _ (s2 _ _ eC)) (by rw[List.length_map,dY];decide) ?_);have s4:aC H (upd H3 C (.lst ((cns rows).map V.int++[.int 0]))):=cz s03 hC;generalize upd H3 C (HO.lst ((cns rows).map V.int++[V.int 0]))=H4 at s4⊢;refine bT _ Z _ Z (.inl (fV a ps rows wd Z (pic.mono s4) gd fun C5 H5 s5 _ e5=>cX _ Z a ps rows wd Z ((pic.mono s4).mono s5) gd fun C6 H6 s6 _ e6=>aU 0 C5 C6 true (by decide) Z Z (pB (s6 _ _ e5) e6 xU) (k H6 (s4.trans (s5.trans s6)))))
theorem dX:aL ["_law_picture_here","_law_colours","_law_palette","_law_order_here","_law_due","_law_found"] ["_law_picture_here","_law_colours","_law_palette"] (aA gQ):=by walk_at "s"
theorem pJ{f:Addr}{fd:FuncData}(F:bf K "_law_ordered_good" "_law_ordered_good" gQ .none f fd){ms:nQ}(T:Txt K mg cFE cC cN cM cP cL cB cD cZ tP tS tC tI)(g__law_order:jA P w K mg base 2 "_law_order" ["_law_picture_here"] [] (Jz K))(g_ordered_picture:DefX P w K mg base 11 "ordered_picture" ["picture","palette"] [] (Ec K cB cN cL ms))(g_m_colours:ym P w K mg base cL 1 "colours" ["self"] (yR cL))(g__law_rows_good:jA P w K mg base 1 "_law_rows_good" ["_law_found","_law_due"] [] (Nq K))(g__law_whole:jA P w K mg base 1 "_law_whole" ["_law_found"] [] (yt))(g__law_own:jA P w K mg base 1 "_law_own" ["_law_found","_law_due"] [] (Jt)):bD P w K mg base gG 12 f fd ["_law_picture_here","_law_colours","_law_palette"] (Qs K cL ms):=by
 refine F.ok dX (fun vs H Q E h=>?_) (fun cdv A outer s H vs Q E hr h=>?_)
 ·refine zb h fun a o p2_=>?_;obtain⟨p,l,ps,rows,wd,cols,rfl,_⟩:=p2_;rfl
 ·refine zb h fun a o p2_=>?_;obtain⟨p,l,ps,rows,wd,cols,rfl,pic,gd,co,pq,hmx,ndk,hcl,tab,k⟩:=p2_;have hu:_+64<cLine:=hr.units
  refine⟨_,(ao (aK (i:=3) dX.nd Z (by walk_at "o") (aD g__law_order (hr.mono (by decide)) Z (aa (pv 0) aj)))
    (ao (kI (ix:=4) (N:=["_law_row","_law_order_here"]) (src:=[none,some 3]) dX.nd Z Z Z ⟨Z,Z,Z,Z,Z,by decide+kernel⟩ (oY K Z (pv 0)) (fun s H C fp=>aJ (i:=0) (show(["_law_row","_law_order_here"]:List Str).Nodup by decide+kernel) Z (by walk_at "o")) (fun s H C fp=>bF) (fun s H C fp=>(bH (N:=["_law_cell","_law_order_here"]) (src:=[none,some 1]) Z ⟨Z,Z,Z,Z,Z,by decide+kernel⟩ (oY K Z (pv 0)) (fun s H C fp=>aJ (i:=0) (show(["_law_cell","_law_order_here"]:List Str).Nodup by decide+kernel) Z (by walk_at "o")) (fun s H C fp=>bF) (fun s H C fp=>(Ci K Z PySem.F.plainAttrs_list PySem.F.slot_list_index PySem.F.type_list_index (oV K Z 1 (by decide) hu) (pv 1) (aa (pv 0) aj))))))
    (ao (aK (i:=5) dX.nd Z (by walk_at "o") (bB g_ordered_picture (hr.mono (by decide)) jc Z (aa (pv 0) (aa (pv 2) aj))))
    (ao (bN (PW.pt (jw (cW (bU (sO K Z (pv 5) Z T.isinstance Z T.tuple PyProof.Rows.boot_tuple))) (jw (aW xg (aR (nH K Z) Z T.len PySem.boot_len (aa (pv 5) aj)) aq (aZ _)) (iG (cW (bU (pP K Z (bw (tV K Z) (pv 5) aq (fun _ _=>Z)) Z T.isinstance Z T.mgL))))))) (az (aN fM)) aX)
    (ao (bN (PW.pt (jw (aW (sS K Z hu) (fU (bw (tV K Z) (pv 5) aq (fun _ _=>Z)) T.cl g_m_colours (hr.mono (by decide))) (bH (N:=["_law_cell","_law_colours"]) (src:=[none,some 1]) Z ⟨Z,Z,Z,Z,Z,by decide+kernel⟩ (oY K Z (pv 3)) (fun s H C fp=>aJ (i:=0) (show(["_law_cell","_law_colours"]:List Str).Nodup by decide+kernel) Z (by walk_at "o")) (fun s H C fp=>bF) (fun s H C fp=>(bw (lJ K Z) (pv 1) (pv 0) (fun _ _=>Z)))) (aZ _)) (iG (cW (bU (aD g__law_rows_good (hr.mono (by decide)) Z (aa (bw (tV K Z) (pv 5) aq (fun _ _=>Z)) (aa (pv 4) aj)))))))) (az (aN fM)) aX)
    (ao (bN (cW (bU (aR (zc K Z Z) Z T.all PyProof.Rows.boot_all (aa (bH (N:=["_law_row"]) (src:=[none]) Z ⟨Z,Z,Z,Z,Z,by decide+kernel⟩ (oY K Z (bw (tV K Z) (pv 5) aq (fun _ _=>Z))) (fun s H C fp=>aJ (i:=0) (show(["_law_row"]:List Str).Nodup by decide+kernel) Z (by walk_at "o")) (fun s H C fp=>bF) (fun s H C fp=>(aR (zc K Z Z) Z T.all PyProof.Rows.boot_all (aa (bH (N:=["_law_cell"]) (src:=[none]) Z ⟨Z,Z,Z,Z,Z,by decide+kernel⟩ (oY K Z (pv 0)) (fun s H C fp=>aJ (i:=0) (show(["_law_cell"]:List Str).Nodup by decide+kernel) Z (by walk_at "o")) (fun s H C fp=>bF) (fun s H C fp=>(aD g__law_whole (hr.mono (by decide)) Z (aa (pv 0) aj)))) aj)))) aj)))) (az (aN fM)) aX)
    (az (aN (pX (aD g__law_own (hr.mono (by decide)) Z (aa (bw (tV K Z) (pv 5) aq (fun _ _=>Z)) (aa (pv 4) aj))) (qm (jH (Jc K Z hu) (fU (pv 2) T.cl g_m_colours (hr.mono (by decide))) (pv 1) (aZ _)))))))))))),?_⟩
  refine cX _ Z a ps rows wd Z pic gd fun O order H1 s1 hO so eO=>?_
  have hmem:∀c∈order,0<=c/\c.toNat<cols.length:=fun c hc=>by have h1:=gq.mp ((fJ so).mp hc);have:=iJ gd.fne c h1.2.2;omega
  have hol:=qW so;have pq00:=pq;have co00:=co;have pic1:=pic.mono s1;refine bc _ Z a Z ⟨_,aP.of pic1.top⟩ fun R hR=>?_;refine jd (k:=0) (fun x=>((rowOf H1 x).getD []).map fun v=>match v with | .int c=> .int ((order.idxOf c:Nat):Int) | _=> .non) (src_list (aP.of pic1.top)) (by rw[List.length_map,pic1.len,c7];exact Nat.le_trans gd.le (by decide)) hR (fun x hx H' Q' sm kk=>?_) fun qs H2 s2 fq pv=>?_
  ·refine aO (List.mem_map.mp hx) fun q hq e2_=>?_;subst e2_;refine kE (gd.mem2 pic1 hq) fun ns eq hl hcs hmem=>?_;rw[aV eq] at kk;refine bc _ Z q Z ⟨_,aP.of (sm _ _ eq)⟩ fun D2 hD2=>?_;refine bR (k:=0) (fun v=>match v with | .int c=> .int ((order.idxOf c:Nat):Int) | _=> .non) (fun _=>true) (src_list (aP.of (sm _ _ eq))) (by rw[List.length_map,hl];exact Nat.le_trans gd.w24 (by decide)) hD2 (fun x _ H' Qb _ kk=>kk H' (aC.refl _)) (fun x hx _ H3 Q3 s3 kk3=>?_) fun H3 s3 e3=>?_
   ·refine aO (List.mem_map.mp hx) fun c hc e2_=>?_;subst e2_;have cm:=(fJ so).mpr (gq.mpr ⟨(hcs c hc).1,(hcs c hc).2,List.mem_flatten.mpr ⟨ns,hmem,hc⟩⟩);have eD3:=s3 _ _ (sm _ _ eO);exact dz _ Z (.inl ⟨Z,_,aP.of eD3⟩) _ Z (yf eD3 cm (kk3 H3 (aC.refl _)))
   ·refine kk D2 H3 s3 hD2 ?_;rw[e3,cU];rfl
  rw[FJ pic1] at pv;have s02:=s1.trans s2;have pv0:=pv;refine fB _ Z (cX _ Z _ p l cols Z (pq.mono s02) (tab.mono s02) (.inl (aU a ps rows wd Z (pic.mono s02) gd (fun _=>⟨ndk,fun u np nl f fs order' H3 ok3 so' eu fnp fnl ff ffs pal pf nn=>?_⟩) fun h=>absurd h (by omega))));cases jL.uniq so so';have tab2:=tab.mono s02;have nt:=tab2.nt ok3.but;have ok:=((Ok.refl tab).same s02).trans ok3
  have nfd:∀p∈fs,p∉R::qs:=fun p hp z=>by
   have fp:=ffs p hp;rcases List.mem_cons.mp z with z | z
   ·rw[z,pv.top] at fp;cases fp
   ·refine aO (pv.mem z) fun _ _ e=>?_;rw[fp] at e;cases e
  have ffs0:∀q∈fs,H q=none:=fun q hq=>s02.free (ffs q hq);have pv:=nt.pic pv;have co:=nt.cols (co.mono s02);have pq:=nt.pal (pq.mono s02);have eO:=nt.lst (s2 _ _ eO);refine bG _ Z true (Ff eu) _ Z ?_;refine aM _ Z u _ Z (.inr (d7.of eu)) Z (fB _ Z ?_);obtain⟨⟨dx_,hp_⟩,cv_⟩:=id pal;refine bh _ Z u _ _ _ Z Z (d7.of eu) (aQ (j:=0) Z) (bT true ⟨_,.of (qH.ins hp_ T.cl T.cA T.cG T.cT T.cO),T.kL⟩ _ Z ?_);refine bh _ Z u _ _ _ Z Z (d7.of eu) (aQ (j:=0) Z) (uh np dx_ _ Z hp_ (dM (by decide+kernel)) (iu np nl _ Z pal fun r1 h1=>?_));have z1:=au (o:=HO.lst ((order.map (cj cols)).map fun c=>V.ref c.1)) h1;have er1:upd H3 r1 (HO.lst ((order.map (cj cols)).map fun c=>V.ref c.1)) r1=some (HO.lst ((order.map (cj cols)).map fun c=>V.ref c.1)):=ak;generalize upd H3 r1 (HO.lst ((order.map (cj cols)).map fun c=>V.ref c.1))=H4 at z1 er1⊢;have eO4:=z1 _ _ eO;have co4:=co.mono z1;refine bc _ Z O Z ⟨_,aP.of eO4⟩ fun r2 h2=>?_;refine bR (k:=0) (fun v=>match v with | .int c=> .ref (cj cols c).1 | _=> .non) (fun _=>true) (src_list (aP.of eO4)) (by rw[List.length_map];exact Nat.le_trans hol (by decide)) h2 (fun x _ H' Qb _ kk=>kk H' (aC.refl _)) (fun x hx _ H' Q' sm kk=>?_) fun H5 z2 e5=>?_
  ·refine aO (List.mem_map.mp hx) fun c hc e2_=>?_;subst e2_;exact aH _ Z _ Z o _ c _ Z Z (aP.of (co4.mono sm).1) (yL (hmem c hc).1 (hmem c hc).2) (kk H' (aC.refl _))
  have er2:H5 r2=some (HO.lst ((order.map (cj cols)).map fun c=>V.ref c.1)):=by rw[e5,cU,List.map_map,List.map_map];rfl
  have z12:=z1.trans z2;refine aU 0 r1 r2 true (by decide) Z Z (pB (z2 _ _ er1) er2 pA) (fB _ Z ?_);have eu:=z12 _ _ eu;have pf:=pf.mono z12;have pv:=pv.mono z12;have ok:=ok.same z12;have pq:=pq.mono z12;have co:=co.mono z12;clear er1 er2 e5 eO4 co4 h1 h2 hp_ cv_ z1 z2 z12 eO;refine bh _ Z u _ _ _ Z Z (d7.of eu) (aQ (j:=1) Z) (fB _ Z (mU f R fs qs _ _ Z pf pv (by rw[c7];unfold iT;rw[List.length_map];exact Nat.le_trans gd.le (by decide)) (ig lw) fun H6 z6=>⟨_,Z,?_⟩));have eu:=z6 _ _ eu;have pf:=pf.mono z6;have pv:=pv.mono z6;have ok:=ok.same z6;have pq:=pq.mono z6;have co:=co.mono z6;clear z6;refine bh _ Z u _ _ _ Z Z (d7.of eu) (aQ (j:=1) Z) (dU f Z ⟨_,aP.of pf.top⟩ fun D4 hD4=>?_);refine bR (k:=0) (fun _=> .bl true) (fun _=>true) (src_list (aP.of pf.top)) (by rw[List.length_map,pf.len,c7];unfold iT;rw[List.length_map];exact Nat.le_trans gd.le (by decide)) hD4 (fun x _ H' Qb _ kk=>kk H' (aC.refl _)) (fun x hx _ H' Q' sm' kk=>?_) fun H7 s7 hD7=>?_
  ·refine aO (List.mem_map.mp hx) fun y hy e2_=>?_;subst e2_;refine aO (pf.mem hy) fun r hr' ey=>?_;refine aO (List.mem_map.mp hr') fun rs0 hr0 e2_=>?_;subst e2_;refine aO (List.mem_map.mp hr0) fun r1 hr1 e2_=>?_;subst e2_;refine bc _ Z y Z ⟨_,aP.of (sm' _ _ ey)⟩ fun D3 hD3=>?_;refine bR (k:=0) (fun _=> .bl true) (fun _=>true) (src_list (aP.of (sm' _ _ ey))) (by rw[List.length_map,List.length_map,(gd.row r1 hr1).1];exact Nat.le_trans gd.w24 (by decide)) hD3 (fun x _ H' Qb _ kk=>kk H' (aC.refl _)) (fun x hx _ H8 Q8 s8 kk8=>?_) fun H8 s8 e8=>?_
   ·refine aO (List.mem_map.mp hx) fun v hv e2_=>?_;subst e2_;exact bT _ Z _ Z (kk8 H8 (aC.refl _))
   ·have eD3:H8 D3=some (.lst ((((r1.map fun c=>((order.idxOf c:Nat):Int)).map V.int).map fun _=>true).map V.bl)):=by rw[e8,cU];simp only[List.map_map];rfl
    refine di D3 _ Z (aP.of eD3) ?_;rw[ug];exact kk H8 s8
  have eD4:H7 D4=some (.lst (((fs.map V.ref).map fun _=>true).map V.bl)):=by rw[hD7,cU];simp only[List.map_map];rfl
  have eu:=s7 _ _ eu;have pf:=pf.mono s7;have pv:=pv.mono s7;have ok:=ok.same s7;have pq:=pq.mono s7;have co:=co.mono s7;refine di D4 _ Z (aP.of eD4) ?_;rw[ug];refine⟨_,Z,?_⟩;clear hD7 eD4 s7;refine bh _ Z u _ _ _ Z Z (d7.of eu) (aQ (j:=1) Z) (fB _ Z (il f R fs qs (iT order rows) Z pf pv nfd (by unfold iT;rw[List.length_map];exact Nat.le_trans gd.le (by decide)) (fun r hr'=>?_) fun H9 k9=>⟨_,Z,?_⟩))
  ·refine aO (List.mem_map.mp hr') fun r0 h0 e2_=>?_;subst e2_;rw[List.length_map,(gd.row r0 h0).1];exact Nat.le_trans gd.w24 (by decide)
  have ok9:=ok.mark pf ffs0 k9;have nt9:=tab.nt ok9.but;have pq9:=nt9.pal pq00;have co9:=nt9.cols co00;obtain⟨⟨dx,hp⟩,_⟩:=id pq9;refine bz _ Z p dx _ Z hp (dM (by decide+kernel)) (iu p l _ Z pq9 fun r h=>?_);have z:=au (o:=HO.lst (cols.map fun c=>V.ref c.1)) h;exact bh _ Z 0 r o true (by decide) Z Z (pB ak (z _ _ co9.1) pA) (k _ (ok9.same z))
end
theorem Bv{lo st:Int}{n:Nat}{g:TG}{tb:TS}{D:Ends}{σ:St}{H:Hp}(Pv:Nat->St->Hp->Prop)(h0:Pv 0 σ H)(hs:∀i σ H,i<n->Pv i σ H->g (.int (lo+(i:Int) * st)) σ H fun σ2 H2=>tb {D with nx:=Pv (i+1),ct:=Pv (i+1),bk:=D.nx} σ2 H2)(hd:∀σ H,Pv n σ H->D.nx σ H):
  ∃W:Nat->Nat->St->Hp->Prop,(∃m,W 0 m σ H)/\∀i m σ H,W i m σ H->
   ((Fb lo st n).stop i H/\D.nx σ H)\/((Fb lo st n).go i H/\∃N:St->Hp->Prop,(∀σ' H',N σ' H'->∃m',m'<m/\W (i+1) m' σ' H')/\∀x H',(Fb lo st n).yld i H x H'->g x σ H' fun σ2 H2=>tb {D with nx:=N,ct:=N,bk:=D.nx} σ2 H2):=by
 refine⟨fun i m σ H=>m=n - i/\i<=n/\Pv i σ H,dU n (by simp) (Nat.zero_le _) h0,?_⟩;rintro i m σ H ⟨rfl,hi,p⟩;by_cases hlt:i<n
 ·refine .inr ⟨hlt,fB (Pv (i+1)) (fun σ' H' p'=>kJ (n - (i+1)) (by omega) Z hlt p') fun x H' y=>?_⟩;obtain⟨e,y⟩:=y;subst e y;exact hs i σ _ hlt p
 ·have e:i=n:=by omega
  subst e;exact .inl ⟨Nat.le_refl _,hd σ H p⟩
theorem Ag{c:TT}{tA:TS}{D:Ends}{σ:St}{H:Hp}(J:St->Hp->Prop)(mono:Ou c)(hc:c σ H fun b H1=>if b=true then ∀nx:St->Hp->Prop,(∀σ' H',J σ' H'->nx σ' H')->tA {D with nx:=nx} σ H1 else J σ H1)(hr:∀σ' H',J σ' H'->D.nx σ' H'):Qk c tA Iw D σ H:=by
 refine mono σ H _ _ (fun b H1 q=>?_) hc;cases b with
 | true=>exact q D.nx hr
 | false=>exact hr σ H1 q
theorem tG.le {cols:List (C4)} {n:Nat} {rows R:List (List Int)} (a:tG cols n rows R):(fj (cns R)).length<=n:=by
 induction a with
 | stop h=>exact h
 | step h o _ ih=>exact ih
theorem tG.down {cols:List (C4)} {n:Nat} {rows R S:List (List Int)} (a:tG cols (n+1) rows R) (h:n<(fj (cns R)).length) (o:sJ cols R S):tG cols n rows S:=by
 have hl:=a.le;have:=o.len;induction a with
 | stop _=>exact .step h o (.stop (by omega))
 | step h1 o1 f1 ih=>exact .step (by omega) o1 (ih h o (f1.le) this)
theorem tG.keep {cols:List (C4)} {n:Nat} {rows R:List (List Int)} (a:tG cols (n+1) rows R) (h:(fj (cns R)).length<=n):tG cols n rows R:=by
 induction a with
 | stop _=>exact .stop h
 | step h1 o1 f1 ih=>exact .step (by omega) o1 (ih h)
theorem Hr(i:Nat):GK (vd Cj [] E0 (iY (wg i) nU)):=fun σ H Q Q' h q=>by refine JN q fun v e a p3_=>?_;obtain⟨ps,rows,wd,e1,e2,hl,k⟩:=p3_;exact cX v e a ps rows wd e1 e2 hl fun p H' s hp ep=>h _ _ (k p H' s hp ep)
theorem Od(i:Nat):GK (vd uF [] E0 (iY (wg i) nU)):=fun σ H Q Q' h q=>by refine JN q fun v e a p3_=>?_;obtain⟨ps,R,e1,e2,hl,k⟩:=p3_;exact bz v e a ps R e1 e2 hl fun q qs H' s hq fr pq=>h _ _ (k q qs H' s hq fr pq)
theorem Oi{K:W.Frag}{neg:Bool}:Px (Jv K neg):=fun x y H Q Q' h q=>by refine dG q fun n p q' b hn e1 e2 el k=>?_;exact aU n p q' b hn e1 e2 el (h _ _ k)
theorem Og{K:W.Frag}{cB cN cZ cL:Addr}{ms:nQ}{R:St->XK}{ta:TA}(ht:O3 ta):GK (GZ (zY K cB cN cZ cL ms) [] R ta):=fun σ H Q Q' h q=>by
 refine ht σ H _ _ (fun vs H1 q1=>?_) q;refine zb q1 fun x m p2_=>?_;obtain⟨p,l,cols,e,pq,tab,km,q2⟩:=p2_;refine gW x m p l cols e pq tab km ?_;rcases q2 with⟨a,ps,rows,wd,e1,e2,e3,kY,kN⟩ | q2
 ·exact .inl (aU a ps rows wd e1 e2 e3 (fun hm=>⟨fun n en n1 n2 q qs R H' ok f hq fr pv=>h _ _ ((kY hm).1 n en n1 n2 q qs R H' ok f hq fr pv),(kY hm).2⟩) kN)
 ·exact .inr q2
theorem tG.lt {cols:List (C4)} {n:Nat} {rows R:List (List Int)} {wd:Nat} (f:tG cols n rows R) (gd:Good rows wd) (h:dH rows.flatten<(cols.length:Int)):∀c∈fj (cns R),c.toNat<cols.length:=fun c hc=>by have h1:=gq.mp hc;have:=iJ gd.fne c (f.sub c h1.2.2);omega
noncomputable def Pu(K:W.Frag)(cL:Addr)(ms:nQ):Sp:=fun vs H Q _=>∃(a o p l:Addr)(ps:List Addr)(rows:List (List Int))(wd:Nat)(cols:List (C4))(t:Int),vs=[.ref a,.ref o,.ref p,.int t]/\bj H a ps (ir rows)/\Good rows wd/\bA H o cols/\fW cL H p l cols/\dH rows.flatten<(cols.length:Int)/\gr ms H/\∀H',Ok ms H H'->Q (.bl true) H'
section
variable{P:Program}{w:World}{K:W.Frag}{mg:Str->Option Value}{base:Heap}{cFE cC cN cM cP cL cB cD cZ:Addr}{tP tS tC tI:Tok}
theorem cY:aL ["_law_picture_here","_law_colours","_law_palette","_law_turn","_law_due","_law_many","_law_ahead","_law_handed","_law_found"] ["_law_picture_here","_law_colours","_law_palette","_law_turn"] (aA jE):=by walk_at "s"
theorem rE{f:Addr}{fd:FuncData}(F:bf K "_law_all_fewer" "_law_all_fewer" jE .none f fd){ms:nQ}(T:Txt K mg cFE cC cN cM cP cL cB cD cZ tP tS tC tI)(g__law_used:jA P w K mg base 2 "_law_used" ["_law_picture_here"] [] (Cj))(g__law_one_less:jA P w K mg base 2 "_law_one_less" ["_law_picture_here","_law_colours"] [] (Ja K))(g__law_copied:jA P w K mg base 1 "_law_copied" ["_law_rows"] [] (uF))(g_fewer_cells:DefX P w K mg base 11 "fewer_cells" ["picture","palette","many"] [] (zY K cB cN cZ cL ms))(g__law_rows_good:jA P w K mg base 1 "_law_rows_good" ["_law_found","_law_due"] [] (Nq K))(g_m_colours:ym P w K mg base cL 1 "colours" ["self"] (yR cL))(g__law_own:jA P w K mg base 1 "_law_own" ["_law_found","_law_due"] [] (Jt)):bD P w K mg base gG 12 f fd ["_law_picture_here","_law_colours","_law_palette","_law_turn"] (Pu K cL ms):=by
 refine F.ok cY (fun vs H Q E h=>?_) (fun cdv A outer s H vs Q E hr h=>?_)
 ·refine zb h fun a o p2_=>?_;obtain⟨p,l,ps,rows,wd,cols,t,rfl,_⟩:=p2_;rfl
 ·refine bM h fun a o p l ps rows wd cols t e9_ pic p11_=>?_;subst e9_;obtain⟨gd,co,pq,hmx,tab,k⟩:=p11_;have hu:_+64<cLine:=hr.units
  refine⟨_,(ao (aK (i:=4) cY.nd Z (by walk_at "o") (pv 0))
    (ao (gm PassesOwn.never Z (Bw Z T.range (aa aq (aa aq (aa (xP rT aq) aj)))) (aJ (i:=5) cY.nd Z (by walk_at "o")) (ao (aK (i:=6) cY.nd Z (by walk_at "o") (pv 4))
    (ao (bN (aW rm (aR (nH K Z) Z T.len PySem.boot_len (aa (aD g__law_used (hr.mono (by decide)) Z (aa (pv 4) aj)) aj)) (pv 5) (aZ _)) (az (aK (i:=4) cY.nd Z (by walk_at "o") (aD g__law_one_less (hr.mono (by decide)) Z (aa (pv 4) (aa (pv 1) aj))))) aX)
    (ao (aK (i:=7) cY.nd Z (by walk_at "o") (aD g__law_copied (hr.mono (by decide)) Z (aa (pv 0) aj)))
    (ao (aK (i:=8) cY.nd Z (by walk_at "o") (bB g_fewer_cells (hr.mono (by decide)) jc Z (aa (pv 7) (aa (pv 2) (aa (pv 5) aj)))))
    (ao (bN (PW.pt (jw (cW (bU (aD g__law_rows_good (hr.mono (by decide)) Z (aa (pv 8) (aa (pv 4) aj))))) (jw (aW (sS K Z hu) (pv 7) (pv 0) (aZ _)) (iG (aW (sS K Z hu) (fU (pv 2) T.cl g_m_colours (hr.mono (by decide))) (pv 1) (aZ _)))))) (az (aN fM)) aX)
    (ao (bN (PW.pt (Dh (aW nC (aG bO (pv 5) aq) (pv 3) (aZ _)) (yo (aW (sS K Z hu) (bB g_fewer_cells (hr.mono (by decide)) jc Z (aa (aD g__law_copied (hr.mono (by decide)) Z (aa (pv 6) aj)) (aa (pv 2) (aa (pv 5) aj)))) (pv 4) (aZ _))))) (az (aN fM)) aX)
    (az (bN (PW.pt (jw (cW (bU (aD g__law_own (hr.mono (by decide)) Z (aa (pv 8) (aa (pv 4) aj))))) (iG (aW (sS K Z hu) (pv 7) (pv 0) (aZ _))))) (az (aN fM)) aX)))))))))
    (az (aN fM)))),?_⟩
  refine aH _ Z _ Z 16 0 (-1) 16 Z ⟨by decide,by decide⟩ (by decide) (by decide) ?_;have h17:(fj (cns rows)).length<=17:=by have:=oG (cns rows);rw[dY] at this;omega
  refine Bv (fun i σ H1=>i<=16/\∃(D:Addr)(dqs:List Addr)(R:List (List Int))(v5 v6 v7 v8:Option V),σ=[some (.ref a),some (.ref o),some (.ref p),some (.int t),some (.ref D),v5,v6,v7,v8]/\Ok ms H H1/\bj H1 D dqs (ir R)/\tG cols (17 - i) rows R) ⟨Nat.zero_le _,gb a ps rows none none none (kJ none Z (Ok.refl tab) pic (.stop h17))⟩ ?_ ?_
  ·rintro i σ H1 hi ⟨_,D,dqs,R,v5,v6,v7,v8,rfl,ok1,pD,few⟩;obtain⟨n,hn⟩:∃n:Nat,n+i=16:=⟨16 - i,by omega⟩;have en:(16+(i:Int) * -1)=(n:Int):=by omega
   rw[en];have e17:17 - i=n+1:=by omega
   have e17':17 - (i+1)=n:=by omega
   rw[e17] at few;have gR:=few.good gd;refine⟨_,Z,?_⟩
   dsimp only[fK,CT]
   refine Ag (fun σ H2=>∃(D2:Addr)(d2:List Addr)(R2:List (List Int)),σ=[some (.ref a),some (.ref o),some (.ref p),some (.int t),some (.ref D2),some (.int (n:Int)),some (.ref D),v7,v8]/\Ok ms H H2/\bj H2 D2 d2 (ir R2)/\bj H2 D dqs (ir R)/\tG cols n rows R2/\tG cols n R R2) ?_ ?_ ?_
   ·exact qK (Ar (Lx _) (DN (fun xs H Q Q' h q=>by obtain⟨p,ys,e,hs,k⟩:=q;exact di p ys e hs (h _ _ k)) (qF (Hr 4) BP)) (pZ 5))
   ·refine cX _ Z D dqs R wd Z pD gR fun U H2 s2 hU eU=>fZ U _ Z (.inl (aP.of eU)) _ Z (fZ _ _ Z Z _ Z (nZ (fun h nx kk=>?_) (fun h=>?_)))
    ·have hlen:n<(fj (cns R)).length:=by have:=of_decide_eq_true h;rw[List.length_map] at this;omega
     have ok2:=ok1.same s2;have nt2:=tab.nt ok2.but;refine bT _ Z _ Z (gC D o dqs R wd cols Z (pD.mono s2) gR (nt2.cols co) (few.lt gd hmx) (by omega) fun q qs S H3 s3 hq fr one pS=>kk _ _ (xQ q qs S Z (ok2.same s3) pS ((pD.mono s2).mono s3) (few.down hlen one) (.step hlen one (.stop ?_))));have:=one.len;have:=few.le;omega
    ·have hlen:(fj (cns R)).length<=n:=by have:=of_decide_eq_false h;rw[List.length_map] at this;omega
     exact xQ D dqs R Z (ok1.same s2) (pD.mono s2) (pD.mono s2) (few.keep hlen) (.stop hlen)
   rintro σ' H2 ⟨D2,d2,R2,rfl,ok2,pD2,pD,fewn,fewR⟩;have nt2:=tab.nt ok2.but;have gR2:=fewn.good gd;refine bz _ Z a ps (ir rows) Z (nt2.pic pic) (by rw[c7];exact Nat.le_trans gd.le (by decide)) fun h hs H3 s3 hh frh ph=>?_;have ok3:=ok2.same s3;have nt3:=tab.nt ok3.but;have pic3:=nt3.pic pic;have co3:=nt3.cols co;have pq3:=nt3.pal pq;have tab3:=ok3.tab;have pD23:=pD2.mono s3;have pD3:=pD.mono s3;refine bG _ Z _ Z _ Z (gW (.ref h) (.int (n:Int)) p l cols Z pq3 tab3 (.int _) (.inl (aU h hs rows wd Z ph gd (fun _=>⟨fun m em m1 m16 f fs S H4 ok4 fewS hf frf pf=>?_,fun hw=>?_⟩) fun hw=>absurd hw (by omega))))
   rotate_left
   ·exact absurd (show cQ 1 16 (.int (n:Int))=true by simp only[cQ,Bool.and_eq_true,decide_eq_true_eq];omega) (by rw[hw];decide)
   obtain rfl:n=m:=by injection em with em;omega
   cases fewS.uniq fewn
   have nfd:∀q∈fs,q∉D2::d2:=fun q hq z=>by
    have fp:=frf q hq;rcases List.mem_cons.mp z with z | z
    ·rw[z,pD23.top] at fp;cases fp
    ·refine aO (pD23.mem z) fun _ _ e=>?_;rw[fp] at e;cases e
   have nt4:=tab3.nt ok4.but;have hl2:(ir R2).length<=1000:=by rw[c7];exact Nat.le_trans gR2.le (by decide)
   refine bT _ Z _ Z (mU f D2 fs d2 _ _ Z pf (nt4.pic pD23) hl2 (ig lw) fun H5 s5=>⟨_,Z,?_⟩);have ok5:=ok4.same s5;have nt5:=tab3.nt ok5.but;have pf5:=pf.mono s5;refine aH _ Z _ Z 2 h a true (by decide) Z Z (mZ (nt5.pic ph) (nt5.pic pic3) (ig lw)) (fB _ Z ?_);obtain⟨⟨dx,hp⟩,_⟩:=id (nt5.pal pq3);refine bz _ Z p dx _ Z hp (dM (by decide+kernel)) (iu p l _ Z (nt5.pal pq3) fun r hr=>?_);have z6:=au (o:=HO.lst (cols.map fun c=>V.ref c.1)) hr;refine bh _ Z 0 r o true (by decide) Z Z (pB ak (z6 _ _ (nt5.cols co3).1) pA) (fB _ Z ?_);have ok6:=ok5.same z6;have pf6:=pf5.mono z6;generalize upd H5 r (HO.lst (cols.map fun c=>V.ref c.1))=H6 at ok6 pf6⊢;clear z6 hr hp s5 ok5 nt5 pf5;have nt6:=tab3.nt ok6.but;refine FZ ?_
   dsimp only[Iw,CT]
   refine Ag (fun σ H7=>σ=[some (.ref a),some (.ref o),some (.ref p),some (.int t),some (.ref D2),some (.int (n:Int)),some (.ref D),some (.ref h),some (.ref f)]/\Ok ms H6 H7) ?_ ?_ ?_
   ·exact Mu (qK (Ar Qj (Ar (Q5 _ _) (pZ 5) (Rr _)) (pZ 3))) (qK (Ar Oi (Og (qF (Od 6) (qF (pZ 2) (qF (pZ 5) BP)))) (pZ 4)))
   ·refine aM _ Z _ _ Z Z (by show(0:Int)<3;decide) (dz _ Z Z _ Z (nZ (fun h=>?_) (fun h=>⟨Z,Ok.refl ok6.tab⟩)));refine⟨_,Z,D,dqs,ir R,Z,nt6.pic pD3,by rw[c7];exact Nat.le_trans gR.le (by decide),fun g gs H7 s7 hg frg pg=>?_⟩;have o7:=ok6.same s7;have nt7:=tab3.nt o7.but;have gmx:dH R.flatten<(cols.length:Int):=Int.lt_of_le_of_lt (iJ gd.fne _ (few.sub _ (gB gR.fne))) hmx;refine⟨_,Z,_,Z,.ref g,.int (n:Int),p,l,cols,Z,nt7.pal pq3,o7.tab,.int _,.inl ⟨g,gs,R,wd,Z,pg,gR,fun _=>⟨fun m em m1 m16 f2 fs2 S H8 ok8 fewS2 hf2 frf2 pf2=>?_,fun hw=>?_⟩,fun hw=>absurd hw (by omega)⟩⟩
    ·obtain rfl:n=m:=by injection em with em;omega
     cases fewS2.uniq fewR;have nt8:=o7.tab.nt ok8.but;refine⟨_,Z,2,f2,D2,true,by decide,Z,Z,mZ pf2 (nt8.pic (nt7.pic pD23)) (ig lw),_,Z,Z,?_⟩;exact((Ok.refl ok6.tab).same s7).trans ok8
    ·exact absurd (show cQ 1 16 (.int (n:Int))=true by simp only[cQ,Bool.and_eq_true,decide_eq_true_eq];omega) (by rw[hw];decide)
   rintro σ7 H7 ⟨rfl,ok67⟩;have ok7:=ok6.trans ok67;have nt67:=ok6.tab.nt ok67.but;have nt7:=tab3.nt ok7.but;have pf7:=nt67.pic pf6;refine bT _ Z _ Z (il f D2 fs d2 R2 Z pf7 (nt7.pic pD23) nfd (Nat.le_trans gR2.le (by decide)) (fun r hr'=>(by rw[(gR2.row r hr').1];exact Nat.le_trans gR2.w24 (by decide))) fun H8 k8=>⟨_,Z,?_⟩);have ok8:=ok7.mark pf7 frf k8;have nt8:=tab3.nt ok8.but;refine aH _ Z _ Z 2 h a true (by decide) Z Z (mZ (nt8.pic ph) (nt8.pic pic3) (ig lw)) (fB _ Z ?_);exact⟨by omega,gb D2 d2 R2 _ _ _ (kJ _ Z (ok3.trans ok8) (nt8.pic pD23) (by rw[e17'];exact fewn))⟩
  ·rintro σ H1 ⟨_,D,dqs,R,v5,v6,v7,v8,rfl,ok1,pD,few⟩;exact k H1 ok1
end
noncomputable abbrev RL(cN cZ cB ea:Addr):Sp:=fun vs H Q E=>Qv cN "none" ea vs H Q E\/(Qv cZ "size" ea vs H Q E\/Qv cB "picture" ea vs H Q E)
noncomputable def Im(K:W.Frag)(cL:Addr)(ms:nQ):Sp:=fun vs H Q _=>∃(v m:V)(p l:Addr)(cs:List (C4))(way:Int),vs=[.int way,v,.ref p,m]/\fW cL H p l cs/\gr ms H/\Kd K H m/\
 ((jy K H v/\(way=0\/way=1\/way=2)/\∀u H',aC H H'->H u=none->H' u=some (.tup [.str "picture"])->Q (.ref u) H')\/∃a ps rows wd,v= .ref a/\bj H a ps (ir rows)/\Good rows wd/\(((cs.length:Int)<=dH rows.flatten/\(way=1\/way=2)/\∀u H',aC H H'->H u=none->H' u=some (.tup [.str "none"])->Q (.ref u) H')\/(dH rows.flatten<(cs.length:Int)/\way=2/\cQ 1 16 m=false/\∀u H',aC H H'->H u=none->H' u=some (.tup [.str "size"])->Q (.ref u) H')))
section
variable{P:Program}{w:World}{K:W.Frag}{mg:Str->Option Value}{base:Heap}{cFE cC cN cM cP cL cB cD cZ:Addr}{tP tS tC tI:Tok}
theorem oJ:aL ["_law_way","_law_picture_here","_law_palette","_law_many","_law_e"] ["_law_way","_law_picture_here","_law_palette","_law_many"] (aA lC):=by walk_at "s"
theorem vq{f:Addr}{fd:FuncData}(F:bf K "_law_refused" "_law_refused" lC .none f fd){ms:nQ}(T:Txt K mg cFE cC cN cM cP cL cB cD cZ tP tS tC tI)(g_cell_counts:DefX P w K mg base 9 "cell_counts" ["picture"] [] (Aw K cB))(g_ordered_picture:DefX P w K mg base 11 "ordered_picture" ["picture","palette"] [] (Ec K cB cN cL ms))(g_fewer_cells:DefX P w K mg base 11 "fewer_cells" ["picture","palette","many"] [] (zY K cB cN cZ cL ms))(g__law_word:Nk P w K mg base 2 "_law_word" ["_law_e"] [] (RL cN cZ cB)):bD P w K mg base gG 12 f fd ["_law_way","_law_picture_here","_law_palette","_law_many"] (Im K cL ms):=by
 refine F.ok oJ (fun vs H Q E h=>?_) (fun cdv A outer s H vs Q E hr h=>?_)
 ·refine dZ h fun v m p l cs way e6_ _=>?_;subst e6_;rfl
 ·refine dZ h fun v m p l cs way e6_ p7_=>?_;subst e6_;obtain⟨pq,tab,km,h⟩:=p7_;have hr1:dD 2 _:=hr.mono (by decide)
  refine⟨_,(ao (Lg (i:=4) oJ.nd Z Z Z T.FolioError Z Z (fun pn XE R hx=>(az (bN (aW nC (pv 0) aq (aZ _)) (az (bQ (bB g_cell_counts (hr.mono (by decide)) hx Z (aa (pv 1) aj)))) (az (bN (aW nC (pv 0) aq (aZ _)) (az (bQ (bB g_ordered_picture (hr.mono (by decide)) hx Z (aa (pv 1) (aa (pv 2) aj))))) (az (bQ (bB g_fewer_cells (hr.mono (by decide)) hx Z (aa (pv 1) (aa (pv 2) (aa (pv 3) aj))))))))))) (fun ea=>(az (aN (Ih g__law_word hr1 Z (aa (pv 4) aj))))))
    (az (aN (bZ aj)))),?_⟩
  rcases h with⟨bad,rfl | rfl | rfl,k⟩ | ⟨a,ps,rows,wd,rfl,pic,gd,⟨hm,rfl | rfl,k⟩ | ⟨hm,rfl,hw,k⟩⟩
  ·refine dz _ Z Z _ Z ?_;refine bT _ Z v Z (.inr ⟨bad,fun H3 s3=>dU cB Z T.eB fun ea hea=>?_⟩);have ex:upd H3 ea (jf ea cB) ea=some (jf ea cB):=ak;have s4:=s3.trans (au (o:=jf ea cB) hea);exact⟨_,Z,.inr (.inr ⟨Z,ex,fun t H5 s5 ht et=>k t H5 (s4.trans s5) (s4.free ht) et⟩)⟩
  ·refine dz _ Z Z _ Z (dz _ Z Z _ Z ?_);refine fB _ Z (cX _ Z v p l cs Z pq tab (.inr ⟨bad,fun H3 s3=>dU cB Z T.eB fun ea hea=>?_⟩));have ex:upd H3 ea (jf ea cB) ea=some (jf ea cB):=ak;have s4:=s3.trans (au (o:=jf ea cB) hea);exact⟨_,Z,.inr (.inr ⟨Z,ex,fun t H5 s5 ht et=>k t H5 (s4.trans s5) (s4.free ht) et⟩)⟩
  ·refine dz _ Z Z _ Z (dz _ Z Z _ Z ?_);refine bG _ Z _ Z _ Z (gW v m p l cs Z pq tab km (.inr ⟨bad,fun H3 s3=>dU cB Z T.eB fun ea hea=>?_⟩));have ex:upd H3 ea (jf ea cB) ea=some (jf ea cB):=ak;have s4:=s3.trans (au (o:=jf ea cB) hea);exact⟨_,Z,.inr (.inr ⟨Z,ex,fun t H5 s5 ht et=>k t H5 (s4.trans s5) (s4.free ht) et⟩)⟩
  ·refine dz _ Z Z _ Z (dz _ Z Z _ Z ?_);refine fB _ Z (cX _ Z _ p l cs Z pq tab (.inl (aU a ps rows wd Z pic gd (fun h=>absurd h (by omega)) fun _ H3 s3=>dU cN Z T.eN fun ea hea=>?_)));have ex:upd H3 ea (jf ea cN) ea=some (jf ea cN):=ak;have s4:=s3.trans (au (o:=jf ea cN) hea);exact⟨_,Z,.inl ⟨Z,ex,fun t H5 s5 ht et=>k t H5 (s4.trans s5) (s4.free ht) et⟩⟩
  ·refine dz _ Z Z _ Z (dz _ Z Z _ Z ?_);refine bG _ Z _ Z _ Z (gW _ m p l cs Z pq tab km (.inl (aU a ps rows wd Z pic gd (fun h=>absurd h (by omega)) fun _ H3 s3=>dU cN Z T.eN fun ea hea=>?_)));have ex:upd H3 ea (jf ea cN) ea=some (jf ea cN):=ak;have s4:=s3.trans (au (o:=jf ea cN) hea);exact⟨_,Z,.inl ⟨Z,ex,fun t H5 s5 ht et=>k t H5 (s4.trans s5) (s4.free ht) et⟩⟩
  ·refine dz _ Z Z _ Z (dz _ Z Z _ Z ?_);refine bG _ Z _ Z _ Z (gW _ m p l cs Z pq tab km (.inl (aU a ps rows wd Z pic gd (fun _=>⟨fun n en n1 n16=>?_,fun _ H3 s3=>dU cZ Z T.eZ fun ea hea=>?_⟩) fun h=>absurd h (by omega))))
   ·subst en;exact absurd (show cQ 1 16 (.int (n:Int))=true by simp only[cQ,Bool.and_eq_true,decide_eq_true_eq];omega) (by rw[hw];decide)
   have ex:upd H3 ea (jf ea cZ) ea=some (jf ea cZ):=ak;have s4:=s3.trans (au (o:=jf ea cZ) hea);exact⟨_,Z,.inr (.inl ⟨Z,ex,fun t H5 s5 ht et=>k t H5 (s4.trans s5) (s4.free ht) et⟩)⟩
end
noncomputable def wK(x:Addr)(H H':Hp):Prop:=∀b o,H b=some o->b≠x->H' b=some o
theorem wK.oth {x:Addr} {H H':Hp} {b:Addr} {o:HO} {ys:List V} (f:wK x H H') (l:H x=some (.lst ys)) (h:H b=some o) (d:∀ys,o≠ .lst ys):H' b=some o:=
 f b o h fun z=>by rw[z,l] at h;exact d ys (Option.some.inj h).symm
theorem wK.col {x:Addr} {H H':Hp} {a:Addr} {r g b:Nat} {ys:List V} (f:wK x H H') (l:H x=some (.lst ys)) (c:jD H a r g b):jD H' a r g b:=⟨f.oth l c.top (fun ys z=>by cases z),c.lr,c.lg,c.lb⟩
theorem wK.cols {x:Addr} {H H':Hp} {a:Addr} {cs:List (C4)} {ys:List V} (f:wK x H H') (l:H x=some (.lst ys)) (v:bA H a cs) (n:a≠x):bA H' a cs:=⟨f a _ v.1 n,fun c hc=>f.col l (v.2 c hc)⟩
theorem wK.pal {x:Addr} {H H':Hp} {cL p q:Addr} {cs:List (C4)} {ys:List V} (f:wK x H H') (l:H x=some (.lst ys)) (v:fW cL H p q cs) (n:q≠x):fW cL H' p q cs:=by obtain⟨⟨dx,h⟩,c⟩:=v;exact⟨⟨dx,f.oth l h (fun ys z=>by cases z)⟩,f.cols l c n⟩
noncomputable def Fr(X:List Addr)(H H':Hp):Prop:=∀b o,H b=some o->b∉X->H' b=some o
noncomputable def Hh(H:Hp)(X:List Addr):Prop:=∀x∈X,∃ys,H x=some (.lst ys)
theorem Fr.oth {X:List Addr} {H H':Hp} {b:Addr} {o:HO} (f:Fr X H H') (l:Hh H X) (h:H b=some o) (d:∀ys,o≠ .lst ys):H' b=some o:=
 f b o h fun z=>by obtain⟨ys,e⟩:=l b z;rw[h] at e;exact d ys (Option.some.inj e)
theorem Fr.col {X:List Addr} {H H':Hp} {a:Addr} {r g b:Nat} (f:Fr X H H') (l:Hh H X) (c:jD H a r g b):jD H' a r g b:=⟨f.oth l c.top (fun ys z=>by cases z),c.lr,c.lg,c.lb⟩
structure Fy(cL:Addr)(H:Hp)(p l o:Bool->Addr)(c:Bool->List (C4)):Prop where
 pal:∀b,fW cL H (p b) (l b) (c b)
 own:∀b,bA H (o b) (c b)
 le:∀b,(c b).length<=16
 ll:l true≠l false
 oo:o true≠o false
 ol:∀i j,o i≠l j
noncomputable def XX(l o:Bool->Addr):List Addr:=[o true,o false,l true,l false]
theorem Fy.mono {cL:Addr} {H H':Hp} {p l o:Bool->Addr} {c:Bool->List (C4)} (w:Fy cL H p l o c) (s:aC H H'):Fy cL H' p l o c:=⟨fun b=>(w.pal b).mono s,fun b=>(w.own b).mono s,w.le,w.ll,w.oo,w.ol⟩
theorem uH{l o:Bool->Addr}{x:Addr}:x∈XX l o↔∃b,x=o b\/x=l b:=by
 unfold XX;simp only[List.mem_cons,List.not_mem_nil,or_false];constructor
 ·rintro(h | h | h | h)
  ·exact⟨true,.inl h⟩
  ·exact⟨false,.inl h⟩
  ·exact⟨true,.inr h⟩
  ·exact⟨false,.inr h⟩
 ·rintro⟨b,h | h⟩<;>cases b<;>simp[h]
noncomputable def Om(c:Bool->List (C4))(b:Bool)(d:C4):Bool->List (C4):=fun x=>if x=b then c b++[d] else c x
theorem Fy.lsts {cL:Addr} {H:Hp} {p l o:Bool->Addr} {c:Bool->List (C4)} (w:Fy cL H p l o c):Hh H (XX l o):=fun x hx=>by
 obtain⟨b,rfl | rfl⟩:=uH.mp hx
 ·exact⟨_,(w.own b).1⟩
 ·exact⟨_,(w.pal b).2.1⟩
theorem Fy.step2 {cL:Addr} {H H2:Hp} {p l o:Bool->Addr} {c:Bool->List (C4)} {b:Bool} {d:C4} (w:Fy cL H p l o c) (cd:jD H d.1 d.2.1 d.2.2.1 d.2.2.2)
  (k2:∀x q,upd H (o b) (.lst ((c b).map (fun c:C4=>V.ref c.1)++[.ref d.1])) x=some q->x≠l b->H2 x=some q) (e2:H2 (l b)=some (.lst ((c b).map (fun c:C4=>V.ref c.1)++[.ref d.1]))) (h16:(c b).length<16):
  Fy cL H2 p l o (Om c b d)/\Fr (XX l o) H H2:=by
 have f0:wK (o b) H (upd H (o b) (.lst ((c b).map (fun c:C4=>V.ref c.1)++[.ref d.1]))):=fun x q hx hne=>by rw[aB hne];exact hx
 have eo:=(w.own b).1;have f1:wK (l b) (upd H (o b) (.lst ((c b).map (fun c:C4=>V.ref c.1)++[.ref d.1]))) H2:=k2;have el:upd H (o b) (.lst ((c b).map (fun c:C4=>V.ref c.1)++[.ref d.1])) (l b)=some (.lst ((c b).map (fun c:C4=>V.ref c.1))):=by rw[aB (w.ol b b).symm];exact(w.pal b).2.1
 have ub:Om c b d b=c b++[d]:=if_pos Z;have un:Om c b d (!b)=c (!b):=if_neg (by cases b<;>decide);have spl:∀{P:Bool->Prop},P b->P (!b)->∀x,P x:=fun{P} a1 a2 x=>by cases b<;>cases x<;>assumption
 have nl:l (!b)≠l b:=by cases b;exact w.ll;exact w.ll.symm
 have no:o (!b)≠o b:=by cases b;exact w.oo;exact w.oo.symm
 have cd2:=f1.col el (f0.col eo cd);refine⟨⟨spl ?_ ?_,spl ?_ ?_,spl ?_ ?_,w.ll,w.oo,w.ol⟩,fun x q hx hn=>?_⟩
 ·rw[ub];obtain⟨⟨dx,hp⟩,cv⟩:=w.pal b;exact⟨⟨dx,f1.oth el (f0.oth eo hp (fun ys z=>by cases z)) (fun ys z=>by cases z)⟩,bA.snoc e2 (fun x hx=>f1.col el (f0.col eo (cv.2 x hx))) cd2⟩
 ·rw[un];exact f1.pal el (f0.pal eo (w.pal (!b)) (w.ol b (!b)).symm) nl
 ·rw[ub];exact bA.snoc (f1 _ _ ak (w.ol b b)) (fun x hx=>f1.col el (f0.col eo ((w.own b).2 x hx))) cd2
 ·rw[un];exact f1.cols el (f0.cols eo (w.own (!b)) no) (w.ol (!b) b)
 ·rw[ub,List.length_append];show _+1<=16;omega
 ·rw[un];exact w.le _
 ·have n1:x≠l b:=fun z=>hn (uH.mpr ⟨b,.inr z⟩);have n2:x≠o b:=fun z=>hn (uH.mpr ⟨b,.inl z⟩);exact k2 x q (by rw[aB n2];exact hx) n1
theorem uq{K:W.Frag}{cP cL:Addr}{H:Hp}{Q:Hp->Prop}{E:XK}{a x dx:Addr}{cs:List (C4)}(hx:H x=none)(hdx:H dx=none)(ne:dx≠x)(vr:bA H a cs)(h1:1<=cs.length)(h16:cs.length<=16)(nd:(cs.map kc).Nodup)(k:∀l H',aC H H'->H l=none->x≠l->fW cL H' x l cs->Q H'):
  rM K cP cL [.ref x,.ref a] (upd (upd H dx (.own x)) x (.ins cL dx [])) (fun v H2=>v= .non/\Q H2) E:=by
 have x1:aC H (upd (upd H dx (.own x)) x (.ins cL dx [])):=fun b q e=>by rw[aB (aF e hx),aB (aF e hdx)];exact e
 refine eH x dx _ Z ak ((vr.mono x1).tm (by omega)) (fun a' d' ea cv' _ _ _ l H2 hl2 kp2 pq=>⟨Z,?_⟩) fun ng=>(ng (gJ a _ Z (vr.mono x1) h1 h16 nd)).elim;cases ea;cases(vr.mono x1).inj cv';refine k l H2 (fun b q e=>kp2 b q (x1 b q e) (aF e hx)) (x1.free hl2) (fun z=>?_) pq;rw[<-z,ak] at hl2;cases hl2
theorem Hz{l m:List (List Int)}(nd:l.Nodup)(h:∀x∈l,x∈m):l.length<=m.length:=by
 induction l generalizing m with
 | nil=>exact Nat.zero_le _
 | cons x l ih=>
  rw[List.nodup_cons] at nd;have hx:=h x List.mem_cons_self;have:=ih (m:=m.erase x) nd.2 fun y hy=>(List.mem_erase_of_ne (fun z=>nd.1 (by rw[<-z];exact hy))).mpr (h y (List.mem_cons_of_mem _ hy));rw[List.length_erase_of_mem hx] at this;have:=List.length_pos_of_mem hx;rw[List.length_cons];omega
theorem zm{r g b:Nat}{c:C4}:isC r g b c=true↔kc c=[(r:Int),(g:Int),(b:Int)]:=by
 unfold isC kc;simp only[decide_eq_true_eq,List.cons.injEq,and_true];constructor
 ·intro h;rw[h];exact⟨Z,Z,Z⟩
 ·rintro⟨h1,h2,h3⟩;refine Prod.ext (by exact Int.ofNat.inj h1) (Prod.ext (by exact Int.ofNat.inj h2) (by exact Int.ofNat.inj h3))
theorem Jk{cs ds:List (C4)}{d:C4}(h:cs.findIdx? (isC d.2.1 d.2.2.1 d.2.2.2)=none)(s:∀x∈ds,kc x∈cs.map kc):ds.findIdx? (isC d.2.1 d.2.2.1 d.2.2.2)=none:=by
 rw[List.findIdx?_eq_none_iff] at h⊢;intro x hx;refine aO (List.mem_map.mp (s x hx)) fun y hy e=>?_;have:=h y hy;cases hq:isC d.2.1 d.2.2.1 d.2.2.2 x with
 | false=>rfl
 | true=>
  rw[zm] at hq;have:isC d.2.1 d.2.2.1 d.2.2.2 y=true:=zm.mpr (by rw[e];exact hq);rw[h y hy] at this;cases this
structure wk(ms:nQ)(hl:Addr)(H H':Hp):Prop where
 but:∀b o,b∉ms.map (·.1)->H b=some o->b≠hl->H' b=some o
 tab:gr ms H'
section
variable{ms:nQ}{hl:Addr}{H H' H2:Hp}
theorem Ok.b (o:Ok ms H H'):wk ms hl H H':=⟨fun b u n e _=>o.but b u n e,o.tab⟩
theorem wk.ok (o:wk ms hl H' H2) (p:Ok ms H H') (h:H hl=none):Ok ms H H2:=⟨fun b u n e=>o.but b u n (p.but b u n e) (aF e h),o.tab⟩
theorem wk.oth (o:wk ms hl H H') (g:gr ms H) {b:Addr} {u:HO} (h:H b=some u) (nb:b≠hl) (d:∀ps,u≠ .tbl ps):H' b=some u:=o.but b u (fun z=>by refine aO (List.mem_map.mp z) fun m hm e2_=>?_;subst e2_;refine aO (g m hm) fun ps e2 _=>?_;rw[h] at e2;cases e2;exact d ps Z) h nb
theorem wk.lst (o:wk ms hl H H') (g:gr ms H) {b:Addr} {xs:List V} (h:H b=some (.lst xs)) (nb:b≠hl):H' b=some (.lst xs):=o.oth g h nb (fun _ z=>by cases z)
theorem wk.tup (o:wk ms hl H H') (g:gr ms H) {ys:List V} (el:H hl=some (.lst ys)) {b:Addr} {xs:List V} (h:H b=some (.tup xs)):H' b=some (.tup xs):=o.oth g h (fun z=>by rw[z,el] at h;cases h) (fun _ z=>by cases z)
theorem wk.cols (o:wk ms hl H H') (g:gr ms H) {ys:List V} (el:H hl=some (.lst ys)) {b:Addr} {cs:List (C4)} (h:bA H b cs) (nb:b≠hl):bA H' b cs:=⟨o.lst g h.1 nb,fun c hc=>⟨o.tup g el (h.2 c hc).top,(h.2 c hc).lr,(h.2 c hc).lg,(h.2 c hc).lb⟩⟩
theorem wk.pal {cL:Addr} (o:wk ms hl H H') (g:gr ms H) {ys:List V} (el:H hl=some (.lst ys)) {p l:Addr} {cs:List (C4)} (h:fW cL H p l cs) (nb:l≠hl):fW cL H' p l cs:=by obtain⟨⟨dx,e⟩,c⟩:=h;exact⟨⟨dx,o.oth g e (fun z=>by rw[z,el] at e;cases e) (fun _ z=>by cases z)⟩,o.cols g el c nb⟩
theorem wk.pic (o:wk ms hl H H') (g:gr ms H) {a:Addr} {ps:List Addr} {R:List (List V)} (p:bj H a ps R) (nb:hl∉a::ps):bj H' a ps R:=
 ⟨o.lst g p.top (fun z=>nb (by rw[<-z];exact List.mem_cons_self)),Paired.mapI p.row fun u _ hu e=>o.lst g e (fun z=>nb (by rw[<-z];exact List.mem_cons_of_mem _ hu)),p.nd,p.out⟩
end
theorem Ok.setNew {ms:nQ} {H H1:Hp} {x:Addr} {xs ys:List V} (o:Ok ms H H1) (h:H x=none) (e:H1 x=some (.lst ys):=by assumption):Ok ms H (upd H1 x (.lst xs)):=
 ⟨fun b u n eb=>by rw[aB (aF eb h)];exact o.but b u n eb,o.tab.keep (fq:=[x]) (fun b u eb hb=>by rw[aB (fun z=>hb (by rw[z];exact List.mem_singleton_self _))];exact eb) (fun y hy=>by rw[List.mem_singleton.mp hy];exact⟨ys,e⟩)⟩
theorem Ig{G:Hp}{D:Addr}{qs:List Addr}(hl:qs.length=34)(pr:∀(i:Nat) x q,((List.range 34).map fun(i:Nat)=>V.int (0+(i:Int)))[i]? =some x->qs[i]? =some q->(∃n:Nat,x= .int (n:Int)/\n<34/\G q=some (.tup [.int (n:Int),.int 1,.int (250 - (n:Int))]))/\q≠D):
  ∃cands:List (C4),qs.map V.ref=cands.map (fun c=>V.ref c.1)/\cands.length=34/\(∀c∈cands,jD G c.1 c.2.1 c.2.2.1 c.2.2.2)/\(cands.map kc).Nodup:=by
 refine kJ ((List.range 34).map fun n=>(qs.getD n 0,n,1,250 - n)) ?_ (by simp) (fun c hc=>?_) ?_
 ·refine List.ext_getElem? fun i=>?_;rw[List.map_map,List.getElem?_map,List.getElem?_map];by_cases hi:i<34
  ·rw[List.getElem?_range hi,List.getElem?_eq_getElem (by omega)];simp[List.getD_eq_getElem?_getD,List.getElem?_eq_getElem (show i<qs.length by omega)]
  ·rw[List.getElem?_eq_none (by omega),List.getElem?_eq_none (by simpa using hi)];rfl
 ·refine aO (List.mem_map.mp hc) fun n hn e2_=>?_;subst e2_;have hn':n<34:=by simpa using hn
  have hq:qs[n]? =some (qs.getD n 0):=by rw[List.getD_eq_getElem?_getD,List.getElem?_eq_getElem (by omega)];rfl
  obtain⟨⟨m,em,_,e⟩,_⟩:=pr n (.int (0+(n:Int))) _ (by rw[List.getElem?_map,List.getElem?_range hn'];rfl) hq;injection em with em
  have:m=n:=by omega
  subst this;refine⟨?_,by show m<=255;omega,by show 1<=255;decide,by show 250 - m<=255;omega⟩;rw[e];have:(250 - (m:Int))=((250 - m:Nat):Int):=by omega
  rw[this];rfl
 ·rw[List.map_map];refine List.pairwise_map.mpr (List.Pairwise.imp ?_ List.pairwise_lt_range);intro a b hab z;unfold kc at z;simp only[Function.comp,List.cons.injEq] at z;omega
theorem Ib{α:Type}(l:List α)(p:α->Bool):(l.filter p).length+(l.filter fun x=> !p x).length=l.length:=by
 induction l with
 | nil=>rfl
 | cons x l ih=>
  rw[List.filter_cons,List.filter_cons];cases p x<;>simp<;>omega
theorem Ju{cands cols:List (C4)}(nd:(cands.map kc).Nodup)(h34:cands.length=34)(h16:cols.length<=16):2<=(cands.filter fun d=> !(cols.findIdx? (isC d.2.1 d.2.2.1 d.2.2.2)).isSome).length:=by
 have h1:((cands.filter fun d=>(cols.findIdx? (isC d.2.1 d.2.2.1 d.2.2.2)).isSome).map kc).length<=(cols.map kc).length:=by refine Hz (nd.sublist (List.filter_sublist.map kc)) fun x hx=>?_;refine aO (List.mem_map.mp hx) fun d hd e2_=>?_;subst e2_;have h2:=(List.mem_filter.mp hd).2;obtain⟨j,hj⟩:=Option.isSome_iff_exists.mp h2;obtain⟨hj1,hj2,_⟩:=List.findIdx?_eq_some_iff_getElem.mp hj;rw[zm] at hj2;rw[show kc d=kc cols[j] from hj2.symm];exact List.mem_map_of_mem (List.getElem_mem hj1)
 rw[List.length_map,List.length_map] at h1;have h3:=Ib cands fun d=>(cols.findIdx? (isC d.2.1 d.2.2.1 d.2.2.2)).isSome;omega
theorem wk.steps {ms:nQ} {hl:Addr} {H H1 H2:Hp} {fq:List Addr} (o:wk ms hl H H1) (k:Fr fq H1 H2) (hf:Hh H1 fq) (hn:∀x∈fq,H x=none\/x=hl):wk ms hl H H2:=
 ⟨fun b u n e h=>k b u (o.but b u n e h) fun z=>(by
  rcases hn b z with z | z
  ·rw[z] at e;cases e
  ·exact h z),o.tab.keep (fun b u e h=>k b u e h) hf⟩
theorem Fy.fr0 {cL F:Addr} {H H':Hp} {p l o:Bool->Addr} {c:Bool->List (C4)} {ys:List V} (w:Fy cL H p l o c) (f:wK F H H') (e:H F=some (.lst ys)) (n:∀b,l b≠F/\o b≠F):Fy cL H' p l o c:=
 ⟨fun b=>f.pal e (w.pal b) (n b).1,fun b=>f.cols e (w.own b) (n b).2,w.le,w.ll,w.oo,w.ol⟩
theorem Iv(xs:List V)(y:V):GJ (xs++[y]) (-1)=some y:=by
 unfold GJ Jh;rw[if_neg (by decide),List.length_append,List.length_singleton,if_pos (by omega)];show(xs++[y])[(-1+((xs.length+1:Nat):Int)).toNat]? =some y;have:(-1+((xs.length+1:Nat):Int)).toNat=xs.length:=by omega
 rw[this];simp
theorem Ds{rows:List (List Int)}{order:List Int}{wd:Nat}{cols:List (C4)}(so:yC rows order)(gd:Good rows wd):Good (iT order rows) wd/\dH (iT order rows).flatten<(((order.map (cj cols)).length:Nat):Int):=by
 have hi:∀r∈rows,∀c∈r,order.idxOf c<order.length:=fun r hr c hc=>List.idxOf_lt_length_of_mem ((fJ so).mpr (gq.mpr ⟨((gd.row r hr).2 c hc).1,((gd.row r hr).2 c hc).2,List.mem_flatten.mpr ⟨r,hr,hc⟩⟩));have hol:=qW so
 have g:Good (iT order rows) wd:=by refine⟨by unfold iT;rw[List.length_map];exact gd.ne,by unfold iT;rw[List.length_map];exact gd.le,gd.w1,gd.w24,fun r hr=>?_⟩;refine aO (List.mem_map.mp hr) fun r0 hr0 e2_=>?_;subst e2_;refine⟨by rw[List.length_map];exact(gd.row r0 hr0).1,fun c hc=>?_⟩;refine aO (List.mem_map.mp hc) fun c0 hc0 e2_=>?_;subst e2_;have:=hi r0 hr0 c0 hc0;omega
 refine⟨g,?_⟩;refine aO (List.mem_flatten.mp (gB g.fne)) fun r hr hm=>?_;refine aO (List.mem_map.mp hr) fun r0 hr0 e2_=>?_;subst e2_;refine aO (List.mem_map.mp hm) fun c0 hc0 e=>?_;have:=hi r0 hr0 c0 hc0;rw[List.length_map,<-e];omega
theorem yq{H:Hp}{a:Addr}{ps:List Addr}{R:List (List V)}(p:bj H a ps R){x:Addr}(h:H x=none):x∉a::ps:=fun z=>by
 rcases List.mem_cons.mp z with z | z
 ·rw[z,p.top] at h;cases h
 ·refine aO (p.mem z) fun _ _ e=>?_;rw[h] at e;cases e
noncomputable def Pb(K:W.Frag)(cL:Addr)(ms:nQ):Sp:=fun vs H Q _=>∃(a o:Addr)(ps:List Addr)(rows:List (List Int))(wd:Nat)(cols:List (C4)),vs=[.ref a,.ref o]/\bj H a ps (ir rows)/\Good rows wd/\bA H o cols/\dH rows.flatten<(cols.length:Int)/\(cols.map kc).Nodup/\1<=cols.length/\cols.length<=16/\gr ms H/\∀H',Ok ms H H'->Q (.bl true) H'
section
variable{P:Program}{w:World}{K:W.Frag}{mg:Str->Option Value}{base:Heap}{cFE cC cN cM cP cL cB cD cZ:Addr}{tP tS tC tI:Tok}
theorem aY:aL ["_law_picture_here","_law_colours","_law_first","_law_handed","_law_rows","_law_some","_law_told","_law_fresh","_law_palette","_law_own_here","_law_beside","_law_due"] ["_law_picture_here","_law_colours"] (aA iz):=by walk_at "s"
theorem p6{f:Addr}{fd:FuncData}(F:bf K "_law_beside_good" "_law_beside_good" iz .none f fd){ms:nQ}(T:Txt K mg cFE cC cN cM cP cL cB cD cZ tP tS tC tI)(g_ordered_picture:DefX P w K mg base 11 "ordered_picture" ["picture","palette"] [] (Ec K cB cN cL ms))(g_Palette:Ha P w K mg base cL 5 "Palette" ["self","colours"] (rM K cP cL))(g_m_colours:ym P w K mg base cL 1 "colours" ["self"] (yR cL))(g_m_add_colour:wB P w K mg base cL 6 "add_colour" ["self","colour"] (Hn K cC cM cL)):bD P w K mg base gG 12 f fd ["_law_picture_here","_law_colours"] (Pb K cL ms):=by
 refine F.ok aY (fun vs H Q E h=>?_) (fun cdv A outer s H vs Q E hr h=>?_)
 ·refine dZ h fun a o ps rows wd cols e6_ _=>?_;subst e6_;rfl
 ·refine dZ h fun a o ps rows wd cols e6_ p7_=>?_;subst e6_;obtain⟨pic,gd,co,hmx,ndk,hc1,hc16,tab,k⟩:=p7_;have hu:_+64<cLine:=hr.units
  refine⟨_,(ao (aK (i:=2) aY.nd Z (by walk_at "o") (bB g_ordered_picture (hr.mono (by decide)) jc Z (aa (pv 0) (aa (qG g_Palette (hr.mono (by decide)) jc Z (aa (dh (sY K Z) Z T.list PyProof.Rows.boot_list (aa (pv 1) aj)) aj)) aj))))
    (ao (gm PassesOwn.never Z (Ka K Z (bZ (aa (bZ (aa (qG g_Palette (hr.mono (by decide)) jc Z (aa (dh (sY K Z) Z T.list PyProof.Rows.boot_list (aa (pv 1) aj)) aj)) (aa (pv 0) aj))) (aa (bZ (aa (bw (tV K Z) (pv 2) aq (fun _ _=>Z)) (aa (bw (tV K Z) (pv 2) aq (fun _ _=>Z)) aj))) aj)))) (yu Z (dI (aJ (i:=3) aY.nd Z (by walk_at "o")) (dI (aJ (i:=4) aY.nd Z (by walk_at "o")) o9))) (ao (aK (i:=5) aY.nd Z (by walk_at "o") (bW (aa (fU (pv 3) T.cl g_m_colours (hr.mono (by decide))) aj)))
    (ao (aK (i:=6) aY.nd Z (by walk_at "o") (bw (tV K Z) (bB g_ordered_picture (hr.mono (by decide)) jc Z (aa (pv 4) (aa (pv 3) aj))) aq (fun _ _=>Z)))
    (ao (bQ (ju PySem.F.plainAttrs_list PySem.F.slot_list_append PySem.F.type_list_append dg (pv 5) (aa (fU (pv 6) T.cl g_m_colours (hr.mono (by decide))) aj)))
    (ao (kI (ix:=7) (N:=["_law_k"]) (src:=[none]) aY.nd Z Z Z ⟨Z,Z,Z,Z,Z,by decide+kernel⟩ (eE Z T.range (aa aq aj)) (fun s H C fp=>aJ (i:=0) (show(["_law_k"]:List Str).Nodup by decide+kernel) Z (by walk_at "o")) (fun s H C fp=>bF) (fun s H C fp=>(bZ (aa (pv 0) (aa aq (aa (aG pY aq (pv 0)) aj))))))
    (ao (aK (i:=7) aY.nd Z (by walk_at "o") (fX (Hg K Z) (bH (N:=["_law_colour_here","_law_colours"]) (src:=[none,some 1]) Z ⟨Z,Z,Z,Z,Z,by decide+kernel⟩ (oY K Z (pv 7)) (fun s H C fp=>aJ (i:=0) (show(["_law_colour_here","_law_colours"]:List Str).Nodup by decide+kernel) Z (by walk_at "o")) (fun s H C fp=>(kO (aW (xH K Z 1 (by decide) hu) (pv 0) (pv 1) (by with_unfolding_all rfl)))) (fun s H C fp=>(pv 0))) iM (iy aq)))
    (az (gm PassesOwn.never Z (Ka K Z (bZ (aa (bZ (aa (pv 6) (aa (bw (lJ K Z) (pv 5) aq (fun _ _=>Z)) (aa (pv 3) (aa (bw (lJ K Z) (pv 5) aq (fun _ _=>Z)) aj))))) (aa (bZ (aa (pv 3) (aa (bw (lJ K Z) (pv 5) aq (fun _ _=>Z)) (aa (pv 6) (aa (bw (lJ K Z) (pv 5) aq (fun _ _=>Z)) aj))))) aj)))) (yu Z (dI (aJ (i:=8) aY.nd Z (by walk_at "o")) (dI (aJ (i:=9) aY.nd Z (by walk_at "o")) (dI (aJ (i:=10) aY.nd Z (by walk_at "o")) (dI (aJ (i:=11) aY.nd Z (by walk_at "o")) o9))))) (az (bN (aW Lr (aR (nH K Z) Z T.len PySem.boot_len (aa (pv 9) aj)) aq (aZ _)) (ao (bQ (ju PySem.F.plainAttrs_list PySem.F.slot_list_append PySem.F.type_list_append dg (pv 9) (aa (HD PySem.F.plainAttrs_list PySem.F.slot_list_pop PySem.F.type_list_pop Mi (pv 7)) aj)))
    (az (bN (PW.pt (jw (aW xg (o5 (pv 8) T.cl g_m_add_colour (hr.mono (by decide)) jc (aa (bw (lJ K Z) (pv 9) (xP rT aq) (fun _ _=>Z)) aj)) (aG pY (aR (nH K Z) Z T.len PySem.boot_len (aa (pv 9) aj)) aq) (aZ _)) (iG (aW (sS K Z hu) (fU (pv 10) T.cl g_m_colours (hr.mono (by decide))) (pv 11) (aZ _))))) (az (aN fM)) aX))) aX))))))))))
    (az (aN fM)))),?_⟩
  refine fB _ Z (bC _ Z o _ Z (.inl (aP.of co.1)) fun L1 hL1=>?_);have z0:=au (o:=HO.lst (cols.map fun c=>V.ref c.1)) hL1;have v1:bA (upd H L1 (HO.lst (cols.map fun c=>V.ref c.1))) L1 cols:=⟨ak,fun c hc=>(co.2 c hc).mono z0⟩;generalize upd H L1 (HO.lst (cols.map fun c=>V.ref c.1))=H0 at z0 v1⊢;intro P1 dx_ hx_ hdx_ hne_;refine uq hx_ hdx_ hne_ v1 hc1 hc16 ndk fun l1 H1 s1 _ _ pal1=>?_;clear hx_ hdx_ hne_;have s01:=z0.trans s1;refine fV _ P1 l1 cols Z pal1 (tab.mono s01) (.inl (aU a ps rows wd Z (pic.mono s01) gd (fun _=>⟨ndk,fun t np nl q qs order H2 ok12 so et fnp fnl fq fqs palN pN nn=>?_⟩) fun h=>absurd h (by omega)));have ok2:=((Ok.refl tab).same s01).trans ok12;have nt2:=tab.nt ok2.but;have co2:=nt2.cols co;refine bC _ Z o _ Z (.inl (aP.of co2.1)) fun L2 hL2=>?_;have z2:=au (o:=HO.lst (cols.map fun c=>V.ref c.1)) hL2;have v2:bA (upd H2 L2 (HO.lst (cols.map fun c=>V.ref c.1))) L2 cols:=⟨ak,fun c hc=>(co2.2 c hc).mono z2⟩;generalize upd H2 L2 (HO.lst (cols.map fun c=>V.ref c.1))=H2' at z2 v2⊢;intro P2 dx_ hP2 hdx_ hne_;refine uq hP2 hdx_ hne_ v2 hc1 hc16 ndk fun l2 H3 s3 hl2 _ pal2=>?_;clear hdx_ hne_;have s23:=z2.trans s3;have fl2':H2 l2=none:=z2.free hl2;have fl2:H l2=none:=ok2.back fl2';have fnl0:H nl=none:=s01.free fnl;have nnl:nl≠l2:=aF palN.2.1 fl2';have nql:l2∉q::qs:=yq pN fl2';have et:=s23 _ _ et;refine dU _ Z uw fun t1 ht1=>?_;have z4:=au (o:=HO.tup [V.ref P2,.ref a]) ht1;have e1:upd H3 t1 (HO.tup [V.ref P2,.ref a]) t1=some (HO.tup [V.ref P2,.ref a]):=ak;generalize upd H3 t1 (HO.tup [V.ref P2,.ref a])=H4 at z4 e1⊢;have et4:=z4 _ _ et;refine bh _ Z t _ _ _ Z Z (d7.of et4) (aQ (j:=0) Z) (fB _ Z (bx t _ _ _ Z Z (d7.of et4) (aQ (j:=1) Z) uw fun t2 ht2=>?_));have z5:=au (o:=HO.tup [V.ref np,.ref q]) ht2;have e2:upd H4 t2 (HO.tup [V.ref np,.ref q]) t2=some (HO.tup [V.ref np,.ref q]):=ak;generalize upd H4 t2 (HO.tup [V.ref np,.ref q])=H5 at z5 e2⊢;refine⟨uw,fun T3 hT3=>?_⟩;have z6:=au (o:=HO.tup [V.ref t1,.ref t2]) hT3;have e3:upd H5 T3 (HO.tup [V.ref t1,.ref t2]) T3=some (HO.tup [V.ref t1,.ref t2]):=ak;generalize upd H5 T3 (HO.tup [V.ref t1,.ref t2])=H6 at z6 e3⊢;refine dU T3 Z ⟨_,d7.of e3⟩ ?_;have s36:=z4.trans (z5.trans z6);have s26:=s23.trans s36
  have hOm:∀c∈order,0<=c/\c.toNat<cols.length:=fun c hc=>by have h1:=gq.mp ((fJ so).mp hc);have:=iJ gd.fne c h1.2.2;omega
  have hOsub:∀x∈order.map (cj cols),kc x∈cols.map kc:=fun x hx=>by obtain⟨c,hc,rfl⟩:=List.mem_map.mp hx;exact List.mem_map_of_mem (jP (hOm c hc).2)
  have hOn:((order.map (cj cols)).map kc).Nodup:=GP so (fun c hc=>(hOm c ((fJ so).mpr hc)).2) ndk;have gO:Good (iT order rows) wd/\dH (iT order rows).flatten<(((order.map (cj cols)).length:Nat):Int):=Ds so gd
  refine yF (xs:=[V.ref t1,.ref t2]) (fun i σ H7=>Ok ms H H7/\H7 T3=some (.tup [V.ref t1,.ref t2])/\H7 t1=some (.tup [V.ref P2,.ref a])/\H7 t2=some (.tup [V.ref np,.ref q])/\(i=0->fW cL H7 P2 l2 cols)/\(i<=1->fW cL H7 np nl (order.map (cj cols))/\bj H7 q qs (ir (iT order rows)))/\
   ∃w3 w4 w5 w6 w7 w8 w9 w10 w11:Option V,σ=[some (.ref a),some (.ref o),some (.ref t),w3,w4,w5,w6,w7,w8,w9,w10,w11]) (zy (ok2.same s26) e3 ((z5.trans z6) _ _ e1) (z6 _ _ e2) (fun _=>pal2.mono s36) (fun _=>⟨palN.mono s26,pN.mono s26⟩) (gb _ _ _ _ _ _ (Oe _ _ _ Z))) (fun i σ H7 _ q=>d7.of q.2.1) ?_ ?_
  ·rintro i x σ H7 hx ⟨ok7,e3,e1,e2,hp1,hp2,w3,w4,w5,w6,w7,w8,w9,w10,w11,rfl⟩;have nt7:=tab.nt ok7.but
   obtain⟨tb,hp,hl,ra,rps,R,hcols,rfl,eb,palH,pR,gR,mR,ndh,h1h,h16h,subh,fhl,nxt⟩:∃(tb hp hl ra:Addr)(rps:List Addr)(R:List (List Int))(hcols:List (C4)),x= .ref tb/\H7 tb=some (.tup [V.ref hp,.ref ra])/\fW cL H7 hp hl hcols/\bj H7 ra rps (ir R)/\Good R wd/\dH R.flatten<(hcols.length:Int)/\(hcols.map kc).Nodup/\1<=hcols.length/\hcols.length<=16/\(∀x∈hcols,kc x∈cols.map kc)/\H hl=none/\
     (∀H8,wk ms hl H7 H8->(i+1<=1->fW cL H8 np nl (order.map (cj cols))/\bj H8 q qs (ir (iT order rows)))):=by
    match i,hx with
    | 0,hx=>
     cases hx;have pp:=hp1 Z;exact gb t1 P2 l2 a ps rows (vY cols Z e1 pp (nt7.pic pic) gd hmx (Jb ndk hc1 hc16 (fun x hx=>List.mem_map_of_mem hx) fl2 fun H8 o8 _=>⟨o8.pal ok7.tab pp.2.1 (hp2 (by decide)).1 nnl,o8.pic ok7.tab (hp2 (by decide)).2 nql⟩))
    | 1,hx=>
     cases hx;have pp:=hp2 (by decide);refine gb t2 np nl q qs (iT order rows) (vY (order.map (cj cols)) Z e2 pp.1 pp.2 gO.1 gO.2 (Jb hOn ?_ (by rw[List.length_map];exact qW so) hOsub fnl0 fun _ _ h=>absurd h (by decide)));have:=gO.2;have:=(gO.1.flat_mem (gB gO.1.fne)).1;omega
   have co7:=nt7.cols co;refine cR tb _ Z (d7.of eb) Z (mF _ _ Z (di _ _ Z Z ?_));obtain⟨⟨dxh,eph⟩,_⟩:=id palH;refine bz _ Z hp dxh _ Z eph (dM (by decide+kernel)) (iu hp hl _ Z palH fun r0 hr0=>?_);have z1:=au (o:=HO.lst (hcols.map fun c=>V.ref c.1)) hr0;have er0:upd H7 r0 (HO.lst (hcols.map fun c=>V.ref c.1)) r0=some (HO.lst (hcols.map fun c=>V.ref c.1)):=ak;generalize upd H7 r0 (HO.lst (hcols.map fun c=>V.ref c.1))=G1 at z1 er0⊢;have vr0:bA G1 r0 hcols:=⟨er0,fun c hc=>(palH.2.2 c hc).mono z1⟩;refine⟨uC,fun S hS=>?_⟩;have z2:=au (o:=HO.lst [V.ref r0]) hS;have eS:upd G1 S (HO.lst [V.ref r0]) S=some (HO.lst [V.ref r0]):=ak;generalize upd G1 S (HO.lst [V.ref r0])=G2 at z2 eS⊢;have s12:=z1.trans z2;refine fB _ Z (cX _ Z _ hp hl hcols Z (palH.mono s12) (ok7.tab.mono s12) (.inl (aU ra rps R wd Z (pR.mono s12) gR (fun _=>⟨ndh,fun u tp tl q' qs' ord' G3 ok3 so' eu ftp ftl fq' fqs' palT pT nn'=>aU u _ _ _ Z Z (d7.of eu) (aQ (j:=0) Z) ?_⟩) fun h=>absurd h (by omega))));have tab2:=ok7.tab.mono s12;have nt3:=tab2.nt ok3.but;have okc3:Ok ms H7 G3:=((Ok.refl ok7.tab).same s12).trans ok3;have vr0:=nt3.cols (vr0.mono z2);have palH3:=nt3.pal (palH.mono s12);have eS:=nt3.lst eS;have tr0:tl≠r0:=fun z=>by rw[z,z2 _ _ er0] at ftl;cases ftl
   have thl:tl≠hl:=fun z=>by rw[z,(palH.mono s12).2.1] at ftl;cases ftl
   have tS:tl≠S:=fun z=>by rw[z,show G2 S=some (HO.lst [V.ref r0]) from by assumption] at ftl;cases ftl
   have r0h:r0≠hl:=fun z=>by rw[z,palH.2.1] at hr0;cases hr0
   obtain⟨⟨dxt,ept⟩,_⟩:=id palT;have htl:(ord'.map (cj hcols)).length<=16:=by rw[List.length_map];exact qW so'
   have subt:∀x∈ord'.map (cj hcols),kc x∈cols.map kc:=fun x hx=>by obtain⟨c,hc,rfl⟩:=List.mem_map.mp hx;refine subh _ (jP ?_);have h1:=gq.mp ((fJ so').mp hc);have:=iJ gR.fne c h1.2.2;omega
   generalize ord'.map (cj hcols)=tcols at palT htl subt;refine dU _ Z (.inl ⟨Z,_,aP.of eS⟩) (bz _ Z tp dxt _ Z ept (dM (by decide+kernel)) (iu tp tl _ Z palT fun r1 hr1=>?_));have fr1:H7 r1=none:=okc3.back hr1;have z4:=au (o:=HO.lst (tcols.map fun c=>V.ref c.1)) hr1;have er1:upd G3 r1 (HO.lst (tcols.map fun c=>V.ref c.1)) r1=some (HO.lst (tcols.map fun c=>V.ref c.1)):=ak;generalize upd G3 r1 (HO.lst (tcols.map fun c=>V.ref c.1))=G4 at z4 er1⊢;have vr1:bA G4 r1 tcols:=⟨er1,fun c hc=>(palT.2.2 c hc).mono z4⟩;have vr0:=vr0.mono z4;have palH4:=palH3.mono z4;have palT4:=palT.mono z4;have eS:=z4 _ _ eS;have r1r0:r1≠r0:=fun z=>by rw[z,nt3.lst (z2 _ _ er0)] at hr1;cases hr1
   have r1hl:r1≠hl:=fun z=>by rw[z,palH3.2.1] at hr1;cases hr1
   have r1tl:r1≠tl:=fun z=>by rw[z,palT.2.1] at hr1;cases hr1
   have Sr0:S≠r0:=fun z=>by rw[z,er0] at hS;cases hS
   have Shl:S≠hl:=fun z=>by rw[z,(palH.mono z1).2.1] at hS;cases hS
   have Sr1:r1≠S:=fun z=>by rw[z,nt3.lst (show G2 S=some (HO.lst [V.ref r0]) from by assumption)] at hr1;cases hr1
   refine eH S _ _ Z Z eS (by show 1<sizeLine;decide) ?_;have f5:wK S G4 (upd G4 S (HO.lst ([V.ref r0]++[V.ref r1]))):=fun x q hx hne=>by rw[aB hne];exact hx
   have vr0:=f5.cols eS vr0 Sr0.symm;have vr1:=f5.cols eS vr1 Sr1;have palH5:=f5.pal eS palH4 Shl.symm;have palT5:=f5.pal eS palT4 tS;have okc5:Ok ms H7 (upd G4 S (HO.lst ([V.ref r0]++[V.ref r1]))):=((okc3.same z4)).setNew (z1.free hS);have eS5:upd G4 S (HO.lst ([V.ref r0]++[V.ref r1])) S=some (HO.lst [V.ref r0,.ref r1]):=ak;generalize upd G4 S (HO.lst ([V.ref r0]++[V.ref r1]))=G5 at f5 vr0 vr1 palH5 palT5 okc5 eS5⊢;clear eS z4 er1 palH4 palT4 hr1 palH3 palT ept ok3 f5 eu pT tab2
   have tw:Fy cL G5 (fun b=>if b then tp else hp) (fun b=>if b then tl else hl) (fun b=>if b then r1 else r0) (fun b=>if b then tcols else hcols):=by
    refine⟨fun b=>?_,fun b=>?_,fun b=>?_,thl,r1r0,fun i j=>?_⟩
    ·cases b;exact palH5;exact palT5
    ·cases b;exact vr0;exact vr1
    ·cases b;exact h16h;exact htl
    ·cases i<;>cases j
     ·exact r0h
     ·exact tr0.symm
     ·exact r1hl
     ·exact r1tl
   have co5:=(ok7.tab.nt okc5.but).cols co7;refine kJ _ Z (by decide) (by decide) fun D hD=>?_;refine Fw (k:=0) (fun x q H=>(∃n:Nat,x= .int (n:Int)/\n<34/\H q=some (.tup [.int (n:Int),.int 1,.int (250 - (n:Int))]))/\q≠D) (fun x q H1 H2 k12 ⟨⟨n,e,hn,eq⟩,nq⟩=>⟨dU n e hn (k12 _ _ eq nq),nq⟩) (src_range (lo:=0) (n:=34)) (by simp;decide) hD (fun x hx H' Q' sm ⟨ys,eD⟩ kk=>?_) fun qs6 G6 s6 eD hl6 pr6=>?_
   ·obtain⟨n,hn,rfl⟩:=List.mem_map.mp hx;have hn':n<34:=by simpa using hn
    refine fB _ Z (aM _ Z _ _ Z Z JQ fun q hq=>kk q _ (au hq) ⟨dU n (by simp) hn' ?_,(aF eD hq).symm⟩);rw[ak];simp
   obtain⟨cands,ec,lc,cc,nc⟩:=Ig (by rw[hl6];simp) pr6;rw[ec] at eD;clear pr6 ec hl6;have co6:=co5.mono s6;refine bc _ Z D Z ⟨_,aP.of eD⟩ fun D2 hD2=>?_;refine bR (L:=cands.map fun c=>V.ref c.1) (k:=0) (fun x=>x) (fun x=>match gj G6 x with | some [.int r,.int g,.int b]=> !(cols.findIdx? (isC r.toNat g.toNat b.toNat)).isSome | _=>false) (src_list (aP.of eD)) (by rw[List.length_map,lc];decide) hD2 (fun x hx H' Qb sm kk=>?_) (fun x hx _ H' Q' sm kk=>⟨_,Z,kk H' (aC.refl _)⟩) fun G7 s7 eD2=>?_
   ·obtain⟨d,hd,rfl⟩:=List.mem_map.mp hx;have cd:=cc d hd;rw[jQ cd.top] at kk;exact bT _ Z _ Z (um (neg:=true) (co6.mono sm) (cd.mono sm) ⟨_,Z,kk H' (aC.refl _)⟩)
   refine bC _ Z D2 _ Z (aP.of eD2) fun F hF=>?_
   have ef:(cH (((cands.map fun c=>V.ref c.1).filter fun x=>match gj G6 x with | some [.int r,.int g,.int b]=> !(cols.findIdx? (isC r.toNat g.toNat b.toNat)).isSome | _=>false).map fun x=>x) none (some 2))=((cands.filter fun d=> !(cols.findIdx? (isC d.2.1 d.2.2.1 d.2.2.2)).isSome).take 2).map fun c=>V.ref c.1:=by
    rw[show ∀xs:List V,cH xs none (some 2)=xs.take 2 from fun xs=>sV xs 2,List.map_id',List.filter_map,<-List.map_take]
    congr 2
    refine List.filter_congr fun d hd=>?_;show(match gj G6 (.ref d.1) with | some [.int r,.int g,.int b]=> !(cols.findIdx? (isC r.toNat g.toNat b.toNat)).isSome | _=>false)=_;rw[jQ (cc d hd).top];rfl
   rw[ef];have h2l:=Ju nc lc hc16
   have cfl:∀d∈(cands.filter fun d=> !(cols.findIdx? (isC d.2.1 d.2.2.1 d.2.2.2)).isSome).take 2,jD G6 d.1 d.2.1 d.2.2.1 d.2.2.2/\cols.findIdx? (isC d.2.1 d.2.2.1 d.2.2.2)=none:=fun d hd=>by have md:=List.mem_filter.mp (List.mem_of_mem_take hd);exact⟨cc d md.1,by simpa using md.2⟩
   have hfl:2<=((cands.filter fun d=> !(cols.findIdx? (isC d.2.1 d.2.2.1 d.2.2.2)).isSome).take 2).length:=by rw[List.length_take];omega
   generalize (cands.filter fun d=> !(cols.findIdx? (isC d.2.1 d.2.2.1 d.2.2.2)).isSome).take 2=fl at cfl hfl⊢;have z8:=au (o:=HO.lst (fl.map fun c=>V.ref c.1)) hF;have eF:upd G7 F (HO.lst (fl.map fun c=>V.ref c.1)) F=some (HO.lst (fl.map fun c=>V.ref c.1)):=ak;generalize upd G7 F (HO.lst (fl.map fun c=>V.ref c.1))=G8 at z8 eF⊢;have s58:=s6.trans (s7.trans z8);have cfl:∀d∈fl,jD G8 d.1 d.2.1 d.2.2.1 d.2.2.2/\cols.findIdx? (isC d.2.1 d.2.2.1 d.2.2.2)=none:=fun d hd=>⟨((cfl d hd).1.mono s7).mono z8,(cfl d hd).2⟩;have tw8:=tw.mono s58;have eS8:=s58 _ _ eS5;have okc8:=okc5.same s58;have s57:=s6.trans s7;have fF:G5 F=none:=s57.free hF;have nF:∀b:Bool,(if b then tl else hl)≠F/\(if b then r1 else r0)≠F:=fun b=>⟨aF (tw.pal b).2.1 fF,aF (tw.own b).1 fF⟩;have fF7:H7 F=none:=okc5.back fF;clear ef eD eD2 cc nc lc h2l co6 co5 hD hD2 hF s6 s7 z8 s57 s58;have fr0:H7 r0=none:=hr0;have ftl7:H7 tl=none:=s12.free ftl;obtain⟨pF,lF,oF,cF,hpF,hlF,hoF,hcF⟩:∃(pF lF oF:Bool->Addr)(cF:Bool->List (C4)),pF=(fun b:Bool=>if b then tp else hp)/\lF=(fun b:Bool=>if b then tl else hl)/\oF=(fun b:Bool=>if b then r1 else r0)/\cF=(fun b:Bool=>if b then tcols else hcols):=fV _ _ _ _ Z Z Z Z
   have sub:∀b:Bool,∀x∈cF b,kc x∈cols.map kc:=fun b=>by
    rw[hcF];cases b
    ·exact subh
    ·exact subt
   have ep1:tp=pF true:=by rw[hpF];rfl
   have ep0:hp=pF false:=by rw[hpF];rfl
   have eo1:r1=oF true:=by rw[hoF];rfl
   have eo0:r0=oF false:=by rw[hoF];rfl
   have el0:hl=lF false:=by rw[hlF];rfl
   have el1:tl=lF true:=by rw[hlF];rfl
   have nF':∀b:Bool,lF b≠F/\oF b≠F:=fun b=>by rw[hlF,hoF];exact nF b
   rw[<-hpF,<-hlF,<-hoF,<-hcF] at tw8;clear tw nF vr0 vr1 palH5 palT5
   have fro:∀b:Bool,H7 (oF b)=none:=fun b=>by
    rw[hoF];cases b
    ·exact fr0
    ·exact fr1
   have frl:H7 (lF true)=none:=by rw[hlF];exact ftl7
   clear hpF hlF hoF hcF;refine aH _ Z _ Z S _ _ _ Z Z (aP.of eS8) (aQ (j:=1) Z) (bT _ Z _ Z (bx S _ _ _ Z Z (aP.of eS8) (aQ (j:=0) Z) Rb fun u1 hu1=>?_));subst ep1 ep0 eo1 eo0 el0 el1;have y1:=au (o:=HO.tup [V.ref (pF true),.ref (oF true),.ref (pF false),.ref (oF false)]) hu1;have eu1:upd G8 u1 (HO.tup [V.ref (pF true),.ref (oF true),.ref (pF false),.ref (oF false)]) u1=some (HO.tup [V.ref (pF true),.ref (oF true),.ref (pF false),.ref (oF false)]):=ak;generalize upd G8 u1 (HO.tup [V.ref (pF true),.ref (oF true),.ref (pF false),.ref (oF false)])=G9 at y1 eu1⊢;refine aH _ Z _ Z S _ _ _ Z Z (aP.of (y1 _ _ eS8)) (aQ (j:=0) Z) (bT _ Z _ Z (bx S _ _ _ Z Z (aP.of (y1 _ _ eS8)) (aQ (j:=1) Z) Rb fun u2 hu2=>?_));have y2:=au (o:=HO.tup [V.ref (pF false),.ref (oF false),.ref (pF true),.ref (oF true)]) hu2;have eu2:upd G9 u2 (HO.tup [V.ref (pF false),.ref (oF false),.ref (pF true),.ref (oF true)]) u2=some (HO.tup [V.ref (pF false),.ref (oF false),.ref (pF true),.ref (oF true)]):=ak;generalize upd G9 u2 (HO.tup [V.ref (pF false),.ref (oF false),.ref (pF true),.ref (oF true)])=G10 at y2 eu2⊢;refine⟨uw,fun U3 hU3=>?_⟩;have y3:=au (o:=HO.tup [V.ref u1,.ref u2]) hU3;have eU3:upd G10 U3 (HO.tup [V.ref u1,.ref u2]) U3=some (HO.tup [V.ref u1,.ref u2]):=ak;generalize upd G10 U3 (HO.tup [V.ref u1,.ref u2])=G11 at y3 eU3⊢;have yy:=y1.trans (y2.trans y3);refine dU U3 Z ⟨_,d7.of eU3⟩ ?_;have okB0:wk ms (lF false) H7 G11:=Ok.b (okc8.same yy)
   refine yF (xs:=[V.ref u1,.ref u2]) (fun j σ K9=>wk ms (lF false) H7 K9/\K9 U3=some (.tup [V.ref u1,.ref u2])/\K9 u1=some (.tup [V.ref (pF true),.ref (oF true),.ref (pF false),.ref (oF false)])/\K9 u2=some (.tup [V.ref (pF false),.ref (oF false),.ref (pF true),.ref (oF true)])/\
    (∃c':Bool->List (C4),Fy cL K9 pF lF oF c'/\(j<=1->c' false=cF false)/\(j=0->c' true=cF true))/\(∃ds:List (C4),K9 F=some (.lst (ds.map fun c=>V.ref c.1))/\2<=ds.length+j/\∀d∈ds,jD K9 d.1 d.2.1 d.2.2.1 d.2.2.2/\cols.findIdx? (isC d.2.1 d.2.2.1 d.2.2.2)=none)/\
    ∃w8 w9 w10 w11:Option V,σ=[some (.ref a),some (.ref o),some (.ref t),some (.ref (pF false)),some (.ref ra),some (.ref S),some (.ref (pF true)),some (.ref F),w8,w9,w10,w11]) (zy okB0 eU3 ((y2.trans y3) _ _ eu1) (y3 _ _ eu2) (dU cF (tw8.mono yy) (fun _=>Z) fun _=>Z) (dU fl (yy _ _ eF) hfl fun d hd=>⟨(cfl d hd).1.mono yy,(cfl d hd).2⟩) (PJ _ _ _ _ Z)) (fun j σ K9 _ q=>d7.of q.2.1) ?_ ?_
   ·rintro j x σ K9 hx ⟨okb,eU,e1',e2',⟨c',w2,hf0,hf1⟩,⟨ds,eF9,hds,cds⟩,v8,v9,v10,v11,rfl⟩
    obtain⟨b,ub,rfl,eb',hcb⟩:∃(b:Bool)(ub:Addr),x= .ref ub/\K9 ub=some (.tup [V.ref (pF b),.ref (oF b),.ref (pF (!b)),.ref (oF (!b))])/\c' b=cF b/\(j+1<=1->b=true):=by
     match j,hx with
     | 0,hx=>cases hx;exact cR true u1 Z e1' (hf1 Z) fun _=>Z
     | 1,hx=>cases hx;exact cR false u2 Z e2' (hf0 (by decide)) fun h=>absurd h (by decide)
    obtain⟨hcb,hjb⟩:=hcb;have hj2:j<2:=by have:=(List.getElem?_eq_some_iff.mp hx).1;simpa using this
    refine cR ub _ Z (d7.of eb') Z (mF _ _ Z (mF _ _ Z (mF _ _ Z (di _ _ Z Z ?_))));refine bC _ Z (oF b) _ Z (.inl (aP.of (w2.own b).1)) (fZ _ _ Z Z _ Z (Gi (fun h16=>?_) (fun h16=>?_)))
    case refine_2=>
     exact⟨okb,eU,e1',e2',⟨c',w2,fun h=>hf0 (by omega),fun h=>absurd h (by omega)⟩,⟨ds,eF9,by omega,cds⟩,_,_,_,_,Z⟩
    rw[List.length_map] at h16;have h16:(c' b).length<16:=by have:=of_decide_eq_true h16;omega
    obtain⟨ds',d,rfl⟩:∃ds' d,ds=ds'++[d]:=by
     rcases List.eq_nil_or_concat ds with h | ⟨L,b',h⟩
     ·rw[h] at hds;simp at hds;omega
     ·exact⟨L,b',by rw[h,List.concat_eq_append]⟩
    have cd:=(cds d (by simp)).1;have fd:(c' b).findIdx? (isC d.2.1 d.2.2.1 d.2.2.2)=none:=by rw[hcb];exact Jk (cds d (by simp)).2 (sub b)
    refine⟨_,Z,.inl ⟨Z,_,aP.of (w2.own b).1⟩,_,Z,.inl ⟨Z,_,aP.of eF9⟩,F,_,.ref d.1,Z,Z,eF9,by simp,?_⟩;have f10:wK F K9 (upd K9 F (.lst (((ds'++[d]).map fun c=>V.ref c.1).dropLast))):=fun x q hx hne=>by rw[aB hne];exact hx
    have w10:=w2.fr0 f10 eF9 nF';have cd10:=f10.col eF9 cd;have eF10:upd K9 F (.lst (((ds'++[d]).map fun c=>V.ref c.1).dropLast)) F=some (.lst (ds'.map fun c=>V.ref c.1)):=by rw[ak];simp
    generalize upd K9 F (HO.lst (((ds'++[d]).map fun c=>V.ref c.1).dropLast))=K10 at f10 w10 cd10 eF10⊢;refine⟨oF b,_,_,Z,Z,(w10.own b).1,Nat.lt_of_lt_of_le (by rw[List.length_map];omega:_<5000) (by decide),?_⟩;have f11:wK (oF b) K10 (upd K10 (oF b) (.lst ((c' b).map (fun c:C4=>V.ref c.1)++[.ref d.1]))):=fun x q hx hne=>by rw[aB hne];exact hx
    have eo11:upd K10 (oF b) (.lst ((c' b).map (fun c:C4=>V.ref c.1)++[.ref d.1])) (oF b)=some (.lst ((c' b).map (fun c:C4=>V.ref c.1)++[.ref d.1])):=ak;have pal11:=f11.pal (w10.own b).1 (w10.pal b) (w10.ol b b).symm;have cd11:=f11.col (w10.own b).1 cd10;obtain⟨⟨dx,hpe⟩,_⟩:=id pal11;refine⟨_,Z,pF b,dx,_,Z,hpe,dM (by decide+kernel),_,Z,_,Z,oF b,_,_,.ref d.1,Z,Z,aP.of eo11,Iv _ _,pF b,lF b,_,_,Z,pal11,w10.le b,cd11.tc,fun a' r' g' b' e c6=>?_,fun hb=>(by rw[cd11.yes] at hb;cases hb)⟩;cases e;obtain⟨rfl,rfl,rfl⟩:=cd11.inj c6;refine⟨fun j hj=>(by rw[fd] at hj;cases hj),fun _ h16'=>absurd h16' (by omega),fun _ _ K12 k6 e6=>?_⟩;obtain⟨w12,fr12⟩:=w10.step2 cd10 k6 e6 h16;have eo12:K12 (oF b)=some (.lst ((c' b).map (fun c:C4=>V.ref c.1)++[.ref d.1])):=k6 _ _ eo11 (w10.ol b b);refine⟨_,Z,oF b,_,Z,.inl (aP.of eo12),_,_,Z,Z,Z,_,Z,Gi (fun h=>absurd h ?_) fun _=>?_⟩
    ·rw[List.length_append,List.length_map,List.length_singleton];simp
    obtain⟨⟨dx2,hpn⟩,_⟩:=id (w12.pal (!b));refine⟨_,Z,pF (!b),dx2,_,Z,hpn,dM (by decide+kernel),pF (!b),lF (!b),_,Z,w12.pal (!b),fun r hr=>?_⟩;have z13:=au (o:=HO.lst ((Om c' b d (!b)).map (fun c:C4=>V.ref c.1))) hr;refine⟨_,Z,0,r,oF (!b),true,by decide,Z,Z,pB ak (z13 _ _ (w12.own (!b)).1) pA,_,Z,?_⟩;generalize upd K12 r (HO.lst ((Om c' b d (!b)).map (fun c:C4=>V.ref c.1)))=K13 at z13⊢
    have nFX:F∉XX lF oF:=fun z=>by
     obtain⟨b0,z | z⟩:=uH.mp z
     ·exact(nF' b0).2 z.symm
     ·exact(nF' b0).1 z.symm
    have frT:Fr (F::XX lF oF) K9 K13:=fun x q hx hn=>z13 _ _ (fr12 x q (f10 x q hx fun z=>hn (by rw[z];exact List.mem_cons_self)) fun z=>hn (List.mem_cons_of_mem _ z))
    have ls:Hh K9 (F::XX lF oF):=fun x hx=>by
     rcases List.mem_cons.mp hx with rfl | hx
     ·exact⟨_,eF9⟩
     ·exact w2.lsts x hx
    refine⟨okb.steps frT ls fun x hx=>?_,frT.oth ls eU (fun ys z=>by cases z),frT.oth ls e1' (fun ys z=>by cases z),frT.oth ls e2' (fun ys z=>by cases z),⟨Om c' b d,w12.mono z13,fun h=>?_,fun h=>absurd h (by omega)⟩,⟨ds',z13 _ _ (fr12 _ _ eF10 nFX),by rw[List.length_append,List.length_singleton] at hds;omega,fun d' hd'=>⟨frT.col ls (cds d' (List.mem_append_left _ hd')).1,(cds d' (List.mem_append_left _ hd')).2⟩⟩,_,_,_,_,Z⟩
    ·rcases List.mem_cons.mp hx with rfl | hx
     ·exact .inl fF7
     ·obtain⟨b0,rfl | rfl⟩:=uH.mp hx
      ·exact .inl (fro b0)
      ·cases b0
       ·exact .inr Z
       ·exact .inl frl
    ·have hb:=hjb h;subst hb;exact hf0 (by omega)
   ·rintro σ K9 ⟨okb,_,_,_,_,_,v8,v9,v10,v11,rfl⟩;exact zy (okb.ok ok7 fhl) (okb.tup ok7.tab palH.2.1 e3) (okb.tup ok7.tab palH.2.1 e1) (okb.tup ok7.tab palH.2.1 e2) (fun h=>absurd h (by omega)) (nxt K9 okb) (gb _ _ _ _ _ _ (Oe _ _ _ Z))
  ·rintro σ H7 ⟨ok7,_⟩;exact k H7 ok7
end
theorem Paired.getMap {α β:Type} {F G:α->β->Prop}:∀{l1:List α}{l2:List β},Paired F l1 l2->(∀(j:Nat) a b,l1[j]? =some a->F a b->G a b)->Paired G l1 l2
 | [],[],.nil,_=> .nil
 | a::l1,b::l2,.cons h t,k=> .cons (k 0 a b Z h) (Paired.getMap t fun j x y hx hf=>k (j+1) x y hx hf)
theorem Paired.setL {α β:Type} {F G:α->β->Prop} {r:β}:∀{l1:List α}{l2:List β}(i:Nat),Paired F l1 l2->(∀(j:Nat) a b,l1[j]? =some a->j≠i->F a b->G a b)->(∀a,l1[i]? =some a->G a r)->Paired G l1 (l2.set i r)
 | [],[],i,.nil,_,_=> .nil
 | a::l1,b::l2,0,.cons h t,h1,h2=> .cons (h2 a Z) (Paired.getMap t fun j x y hx hf=>h1 (j+1) x y hx (by omega) hf)
 | a::l1,b::l2,i+1,.cons h t,h1,h2=> .cons (h1 0 a b Z (by omega) h) (Paired.setL i t (fun j x y hx hj hf=>h1 (j+1) x y hx (by omega) hf) fun x hx=>h2 x hx)
theorem HR{ps:List Addr}(nd:ps.Nodup){i j:Nat}{p:Addr}(h1:ps[i]? =some p)(h2:ps[j]? =some p):i=j:=by have l1:=(List.getElem?_eq_some_iff.mp h1);have l2:=(List.getElem?_eq_some_iff.mp h2);obtain⟨a1,b1⟩:=l1;obtain⟨a2,b2⟩:=l2;exact(List.getElem_inj nd).mp (b1.trans b2.symm)
theorem bj.setRow {H:Hp} {a q:Addr} {ps:List Addr} {R:List (List V)} {i:Nat} {r:List V} (p:bj H a ps R) (hq:ps[i]? =some q):bj (upd H q (.lst r)) a ps (R.set i r):=by
 have hm:=List.mem_of_getElem? hq;refine⟨?_,Paired.setL i p.row (fun j c b hj hne e=>?_) (fun c hc=>?_),p.nd,p.out⟩
 ·rw[aB (fun z=>p.out (by rw[z];exact hm))];exact p.top
 ·rw[aB (fun z=>hne (HR p.nd hj (by rw[z];exact hq)))];exact e
 ·rw[hq] at hc;cases hc;exact ak
noncomputable def iv:V->Int
 | .int i=>i
 | _=>0
theorem zu(ns:List Int):(ns.map V.int).map iv=ns:=by rw[List.map_map];exact List.map_id' ns
theorem Km{rows:List (List Int)}{wd:Nat}(g:Good rows wd):dH (rows.map dH)=dH rows.flatten:=by
 have n1:rows.map dH≠[]:=fun z=>by have h:=congrArg List.length z;rw[List.length_map] at h;have:=g.ne;rw[h] at this;exact absurd this (by decide)
 have rne:∀r∈rows,r≠[]:=fun r hr z=>by have h:=(g.row r hr).1;rw[z] at h;have:=g.w1;rw[<-h] at this;exact absurd this (by decide)
 refine Int.le_antisymm ?_ ?_
 ·refine aO (List.mem_map.mp (gB n1)) fun r hr e=>?_;rw[<-e];exact iJ g.fne _ (List.mem_flatten.mpr ⟨r,hr,gB (rne r hr)⟩)
 ·refine aO (List.mem_flatten.mp (gB g.fne)) fun r hr hc=>?_;exact Int.le_trans (iJ (rne r hr) _ hc) (iJ n1 _ (List.mem_map.mpr ⟨r,hr,Z⟩))
theorem Hx{H:Hp}(g:List Int->V):∀(qs:List Addr)(R:List (List Int)),Paired (fun p r=>H p=some (.lst r)) qs (ir R)->(qs.map V.ref).map (fun x=>g (((rowOf H x).getD []).map iv))=R.map g:=by
 intro qs;induction qs with
 | nil=>intro R h;cases R with
  | nil=>rfl
  | cons r R=>cases h
 | cons q qs ih=>
  intro R h;cases R with
  | nil=>cases h
  | cons r R=>
   cases h with
   | cons e1 h2=>
    rw[List.map_cons,List.map_cons,ih R h2,aV e1];show g ((r.map V.int).map iv)::_=g r::_;rw[zu]
noncomputable def DX(ms:nQ)(K:W.Frag):Sp:=fun vs H Q _=>∃(a:Addr)(ns:List Int),vs=[.ref a]/\aP K H a (ns.map V.int)/\gr ms H/\∀H',Q (.bl true) H'
theorem M7{K:W.Frag}{H:Hp}{p:Addr}{v:V}(ep:H p=some (.lst [.int 0]))(hm:v∈[V.int 16,.int (-1),.bl true,.non,.str "0",.ref p,.int (10 ^ 20)]):Kd K H v/\cQ 0 15 v=false:=by
 simp only[List.mem_cons,List.not_mem_nil,or_false] at hm;rcases hm with rfl | rfl | rfl | rfl | rfl | rfl | rfl
 ·exact⟨.int _,by decide⟩
 ·exact⟨.int _,by decide⟩
 ·exact⟨.bl _,Z⟩
 ·exact⟨.non,Z⟩
 ·exact⟨.str _,Z⟩
 ·exact⟨.lst ep,Z⟩
 ·exact⟨.int _,by decide⟩
theorem KJ{K:W.Frag}{H:Hp}{p:Addr}{v:V}(ep:H p=some (.lst [.int 1]))(hm:v∈[V.int 0,.int 17,.int (-1),.bl true,.non,.str "1",.ref p,.int (10 ^ 20)]):Kd K H v/\cQ 1 16 v=false:=by
 simp only[List.mem_cons,List.not_mem_nil,or_false] at hm;rcases hm with rfl | rfl | rfl | rfl | rfl | rfl | rfl | rfl
 ·exact⟨.int _,by decide⟩
 ·exact⟨.int _,by decide⟩
 ·exact⟨.int _,by decide⟩
 ·exact⟨.bl _,Z⟩
 ·exact⟨.non,Z⟩
 ·exact⟨.str _,Z⟩
 ·exact⟨.lst ep,Z⟩
 ·exact⟨.int _,by decide⟩
structure Lw(K:W.Frag)(cL:Addr)(ms:nQ)(H:Hp)(A:Addr)(ps:List Addr)(o P l hd:Addr)(hs:List Addr)(rows:List (List Int))(wd:Nat)(cols:List (C4)):Prop where
 tab:gr ms H
 pic:bj H A ps (ir rows)
 gd:Good rows wd
 co:bA H o cols
 pal:fW cL H P l cols
 hnd:bj H hd hs (ir rows)
 mx:dH rows.flatten<(cols.length:Int)
 nd:(cols.map kc).Nodup
 c16:cols.length<=16
 nl:l∉hd::hs
section
variable{K:W.Frag}{cL:Addr}{ms:nQ}{H H':Hp}{A:Addr}{ps:List Addr}{o P l hd:Addr}{hs:List Addr}{rows:List (List Int)}{wd:Nat}{cols:List (C4)}
theorem Lw.mono (w:Lw K cL ms H A ps o P l hd hs rows wd cols) (s:aC H H'):Lw K cL ms H' A ps o P l hd hs rows wd cols:=⟨w.tab.mono s,w.pic.mono s,w.gd,w.co.mono s,w.pal.mono s,w.hnd.mono s,w.mx,w.nd,w.c16,w.nl⟩
theorem Lw.ok (w:Lw K cL ms H A ps o P l hd hs rows wd cols) (k:Ok ms H H'):Lw K cL ms H' A ps o P l hd hs rows wd cols:=
 have n:=w.tab.nt k.but
 ⟨k.tab,n.pic w.pic,w.gd,n.cols w.co,n.pal w.pal,n.pic w.hnd,w.mx,w.nd,w.c16,w.nl⟩
theorem wK.pic {x:Addr} {a:Addr} {qs:List Addr} {R:List (List V)} (f:wK x H H') (p:bj H a qs R) (n:x∉a::qs):bj H' a qs R:=
 ⟨f _ _ p.top (fun z=>n (by rw[<-z];exact List.mem_cons_self)),Paired.mapI p.row fun u _ hu e=>f _ _ e (fun z=>n (by rw[<-z];exact List.mem_cons_of_mem _ hu)),p.nd,p.out⟩
theorem Lw.fr0 {x:Addr} {ys:List V} (w:Lw K cL ms H A ps o P l hd hs rows wd cols) (f:wK x H H') (e:H x=some (.lst ys)) (nA:x∉A::ps) (nh:x∉hd::hs) (no:x≠o) (nl:x≠l):Lw K cL ms H' A ps o P l hd hs rows wd cols:=
 ⟨w.tab.keep (fq:=[x]) (fun b u eb hb=>f b u eb fun z=>hb (by rw[z];exact List.mem_singleton_self _)) (fun y hy=>by rw[List.mem_singleton.mp hy];exact⟨ys,e⟩),wK.pic f w.pic nA,w.gd,f.cols e w.co no.symm,f.pal e w.pal nl.symm,wK.pic f w.hnd nh,w.mx,w.nd,w.c16,w.nl⟩
theorem Lw.c1 (w:Lw K cL ms H A ps o P l hd hs rows wd cols):1<=cols.length:=by have:=w.mx;have:=(w.gd.flat_mem (gB w.gd.fne)).1;omega
end
section
variable{P:Program}{w:World}{K:W.Frag}{mg:Str->Option Value}{base:Heap}{cFE cC cN cM cP cL cB cD cZ:Addr}{tP tS tC tI:Tok}
noncomputable abbrev vg:List Str:=["_law_script","_law_number","_law_pool_here","_law_many","_law_picture_here","_law_colours","_law_palette","_law_handed","_law_more","_law_odd","_law_bad","_law_size_here","_law_way","_law_most","_law_few","_law_colour_here","_law_again"]
theorem fH:aL ["_law_script","_law_number","_law_pool_here","_law_many","_law_picture_here","_law_colours","_law_palette","_law_handed","_law_more","_law_odd","_law_bad","_law_size_here","_law_way","_law_most","_law_few","_law_colour_here","_law_again"] ["_law_script"] (aA ie):=by walk_at "s"
theorem NB{f:Addr}{fd:FuncData}(F:bf K "law" "law" ie .none f fd){ms:nQ}(T:Txt K mg cFE cC cN cM cP cL cB cD cZ tP tS tC tI)(g__law_draw:jA P w K mg base 1 "_law_draw" ["_law_script","_law_k"] [] (zf K))(g__law_pool:jA P w K mg base 2 "_law_pool" ["_law_script","_law_first","_law_near"] [] (Hs K))(g__law_picture:jA P w K mg base 2 "_law_picture" ["_law_script","_law_first","_law_many"] [] (Hy K))(g_Palette:Ha P w K mg base cL 5 "Palette" ["self","colours"] (rM K cP cL))(g__law_copied:jA P w K mg base 1 "_law_copied" ["_law_rows"] [] (uF))(g__law_counts_good:jA P w K mg base 10 "_law_counts_good" ["_law_picture_here"] [] (Oz K))(g__law_ordered_good:jA P w K mg base 12 "_law_ordered_good" ["_law_picture_here","_law_colours","_law_palette"] [] (Qs K cL ms))(g__law_all_fewer:jA P w K mg base 12 "_law_all_fewer" ["_law_picture_here","_law_colours","_law_palette","_law_turn"] [] (Pu K cL ms))(g__law_beside_good:jA P w K mg base 12 "_law_beside_good" ["_law_picture_here","_law_colours"] [] (Pb K cL ms))(g__law_no_picture:jA P w K mg base 2 "_law_no_picture" ["_law_rows","_law_odd","_law_number"] [] (Dv K))(g__law_refused:jA P w K mg base 12 "_law_refused" ["_law_way","_law_picture_here","_law_palette","_law_many"] [] (Im K cL ms))(g_m_many:ym P w K mg base cL 1 "many" ["self"] (vJ cL))(g_m_add_colour:wB P w K mg base cL 6 "add_colour" ["self","colour"] (Hn K cC cM cL))(g_fewer_cells:DefX P w K mg base 11 "fewer_cells" ["picture","palette","many"] [] (zY K cB cN cZ cL ms)):bD P w K mg base gG 13 f fd ["_law_script"] (DX ms K):=by
 refine F.ok fH (fun vs H Q E h=>?_) (fun cdv A outer s H vs Q E hr h=>?_)
 ·refine gP h fun a ns e2_ _=>?_;subst e2_;rfl
 ·refine jG h fun a ns e2_ hS tab k=>?_;subst e2_;have hu:_+64<cLine:=hr.units
  obtain⟨t20,r20,k20⟩:∃tr,qz ((jx gG P w K mg base vg "law" (aA ie) f cdv A outer s H E).nox) ((bJ ie).drop 20) tr/\
    ∀(v1 v2 v3 v8 v9 v10 v11 v12 v13 v14 v15:Option V)(A0:Addr)(ps:List Addr)(o P0 l hd:Addr)(hs:List Addr)(rows:List (List Int))(wd:Nat)(cols:List (C4))(H1:Hp),Lw K cL ms H1 A0 ps o P0 l hd hs rows wd cols->tr {nx:=fun _ H'=>Q .non H',rt:=Q} [some (.ref a),v1,v2,v3,some (.ref A0),some (.ref o),some (.ref P0),some (.ref hd),v8,v9,v10,v11,v12,v13,v14,v15,none] H1:=by
   refine⟨_,(ao (bQ (HD PySem.F.plainAttrs_list PySem.F.slot_list_reverse PySem.F.type_list_reverse BL (bw (lJ K Z) (pv 7) aq (fun _ _=>Z))))
    (ao (aK (i:=16) fH.nd Z (by walk_at "o") (aD g__law_copied (hr.mono (by decide)) Z (aa (pv 7) aj)))
    (az (aN (pX (aD g__law_counts_good (hr.mono (by decide)) Z (aa (pv 7) aj)) (qm (jH (Jc K Z hu) (bB g_fewer_cells (hr.mono (by decide)) jc Z (aa (pv 7) (aa (pv 6) (aa aq aj)))) (pv 16) (aZ _)))))))),?_⟩
   intro v1 v2 v3 v8 v9 v10 v11 v12 v13 v14 v15 A0 ps o P0 l hd hs rows wd cols H1 w;refine dB (w.gd.first w.hnd) fun q0 r0 at0 e0 _=>?_;refine aO (getElem?_ref at0) fun q1 hq1 eq1=>?_;injection eq1 with eq1
   subst eq1
   have hr0:rows[0]? =some r0:=by
    refine aO (w.hnd.at hq1) fun r hr' er=>?_;rw[e0] at er;injection er with er
    injection er with er
    unfold ir at hr';rw[List.getElem?_map] at hr';refine aO (Option.map_eq_some_iff.mp hr') fun r1 h1 e1=>?_
    have:r1=r0:=by
     have h2:r1.map V.int=r0.map V.int:=e1.trans er.symm;have:=congrArg (List.map iv) h2
     rwa [zu,zu] at this
    rw[<-this];exact h1
   refine fB _ Z (bx hd _ _ _ Z Z (aP.of w.hnd.top) (aQ (j:=0) at0) (.inl ⟨Z,_,aP.of e0⟩) (cR q0 _ Z Z e0 ?_));have f1:wK q0 H1 (upd H1 q0 (.lst (r0.map V.int).reverse)):=fun x u hx hne=>by rw[aB hne];exact hx
   have hn1:=bj.setRow (r:=(r0.map V.int).reverse) w.hnd hq1;have pal1:=f1.pal e0 w.pal (fun z=>w.nl (by rw[z];exact List.mem_cons_of_mem _ (List.mem_of_getElem? hq1)));have tab1:gr ms (upd H1 q0 (.lst (r0.map V.int).reverse)):=w.tab.keep (fq:=[q0]) (fun b u eb hb=>f1 b u eb fun z=>hb (by rw[z];exact List.mem_singleton_self _)) (fun y hy=>by rw[List.mem_singleton.mp hy];exact⟨_,e0⟩);have er:(ir rows).set 0 (r0.map V.int).reverse=ir (rows.set 0 r0.reverse):=by unfold ir;rw[List.map_set,List.map_reverse]
   rw[er] at hn1;generalize upd H1 q0 (HO.lst (r0.map V.int).reverse)=H2 at hn1 pal1 tab1⊢;have mem3:∀r∈rows.set 0 r0.reverse,r∈rows\/r=r0.reverse:=fun r hr=>List.mem_or_eq_of_mem_set hr
   have g2:Good (rows.set 0 r0.reverse) wd:=by
    refine⟨by rw[List.length_set];exact w.gd.ne,by rw[List.length_set];exact w.gd.le,w.gd.w1,w.gd.w24,fun r hr=>?_⟩;rcases mem3 r hr with h | rfl
    ·exact w.gd.row r h
    ·have:=w.gd.row r0 (List.mem_of_getElem? hr0);exact⟨by rw[List.length_reverse];exact this.1,fun c hc=>this.2 c (List.mem_reverse.mp hc)⟩
   have m2:dH (rows.set 0 r0.reverse).flatten<(cols.length:Int):=by
    refine aO (List.mem_flatten.mp (gB g2.fne)) fun r hr hc=>?_;refine Int.lt_of_le_of_lt (iJ w.gd.fne _ ?_) w.mx;rcases mem3 r hr with h | rfl
    ·exact List.mem_flatten.mpr ⟨r,h,hc⟩
    ·exact List.mem_flatten.mpr ⟨r0,List.mem_of_getElem? hr0,List.mem_reverse.mp hc⟩
   refine bz _ Z hd hs _ Z hn1 (by rw[c7];exact Nat.le_trans g2.le (by decide)) fun g gs H3 s3 _ _ pg=>?_;refine cX _ Z hd hs _ wd Z (hn1.mono s3) g2 fun H4 s4=>⟨_,Z,?_⟩;have s34:=s3.trans s4;refine bT _ Z _ Z (gW (.ref hd) (.int 16) P0 l cols Z (pal1.mono s34) (tab1.mono s34) (.int _) (.inl (aU hd hs _ wd Z (hn1.mono s34) g2 (fun _=>⟨fun n en n1 n16 q qs R H5 ok5 few _ _ pq=>?_,fun hw=>absurd hw (by decide)⟩) fun h=>absurd h (by omega))))
   have h16:(fj (cns (rows.set 0 r0.reverse))).length<=n:=by
    have:=oG (cns (rows.set 0 r0.reverse));rw[dY] at this;injection en with en
    omega
   cases few.uniq (.stop h16);have nt5:=(tab1.mono s34).nt ok5.but;exact bh _ Z 2 q g true (by decide) Z Z (mZ pq (nt5.pic (pg.mono s4)) (ig lw)) (k _)
  obtain⟨t18,r18,k18⟩:∃tr,qz ((jx gG P w K mg base vg "law" (aA ie) f cdv A outer s H E).nox) ((bJ ie).drop 18) tr/\
    ∀(v1 v2 v3 v8 v9 v10 v11 v12 v13:Option V)(A0:Addr)(ps:List Addr)(o P0 l hd:Addr)(hs:List Addr)(rows:List (List Int))(wd:Nat)(cols:List (C4))(Fp lf:Addr)(m:Nat)(H1:Hp),Lw K cL ms H1 A0 ps o P0 l hd hs rows wd cols->fW cL H1 Fp lf (cols.take m)->1<=m->m<=cols.length->lf∉A0::ps->lf∉hd::hs->lf≠o->lf≠l->tr {nx:=fun _ H'=>Q .non H',rt:=Q} [some (.ref a),v1,v2,v3,some (.ref A0),some (.ref o),some (.ref P0),some (.ref hd),v8,v9,v10,v11,v12,v13,some (.ref Fp),none,none] H1:=by
   refine⟨_,(ao (gm PassesOwn.never Z (oY K Z (fX (Hg K Z) (pv 5) (iy (fU (pv 14) T.cl g_m_many (hr.mono (by decide)))) iM)) (aJ (i:=15) fH.nd Z (by walk_at "o")) (az (bQ (o5 (pv 14) T.cl g_m_add_colour (hr.mono (by decide)) jc (aa (pv 15) aj)))))
    (ao (bN (cW (bU (aD g__law_ordered_good (hr.mono (by decide)) Z (aa (pv 4) (aa (pv 5) (aa (pv 14) aj)))))) (az (aN fM)) aX)
    (@r20))),?_⟩
   intro v1 v2 v3 v8 v9 v10 v11 v12 v13 A0 ps o P0 l hd hs rows wd cols Fp lf m H1 w pf m1 mc nA nh no nl;obtain⟨⟨dx,hp⟩,_⟩:=id pf;have ltm:(cols.take m).length=m:=by rw[List.length_take];omega
   refine fB _ Z (bz _ Z Fp dx _ Z hp (dM (by decide+kernel)) (iu Fp lf _ Z pf (bC _ Z o _ Z (aP.of w.co.1) fun L hL=>?_)));rw[ltm,N7 _ m (by rw[List.length_map];exact mc),<-List.map_drop];have z1:=au (o:=HO.lst ((cols.drop m).map (fun c:C4=>V.ref c.1))) hL;have eL:upd H1 L (HO.lst ((cols.drop m).map (fun c:C4=>V.ref c.1))) L=some (HO.lst ((cols.drop m).map (fun c:C4=>V.ref c.1))):=ak;have nLf:L≠lf:=fun z=>by rw[z,pf.2.1] at hL;cases hL
   have w:=w.mono z1;have pf:=pf.mono z1;generalize upd H1 L (HO.lst ((cols.drop m).map (fun c:C4=>V.ref c.1)))=H2 at z1 eL w pf⊢;refine dU L Z ⟨_,aP.of eL⟩ ?_;refine j7 (xs:=(cols.drop m).map (fun c:C4=>V.ref c.1)) (fun i σ H3=>Lw K cL ms H3 A0 ps o P0 l hd hs rows wd cols/\fW cL H3 Fp lf (cols.take (m+i))/\H3 L=some (HO.lst ((cols.drop m).map (fun c:C4=>V.ref c.1)))/\∃v15:Option V,σ=[some (.ref a),v1,v2,v3,some (.ref A0),some (.ref o),some (.ref P0),some (.ref hd),v8,v9,v10,v11,v12,v13,some (.ref Fp),v15,none]) (yU w pf eL ⟨none,Z⟩) (fun i σ H3 _ q=>aP.of q.2.2.1) ?_ ?_
   ·rintro i x σ H3 hx ⟨w,pf,eL,v15,rfl⟩;rw[List.getElem?_map,List.getElem?_drop] at hx;refine aO (Option.map_eq_some_iff.mp hx) fun c hc e2_=>?_;subst e2_;have hlt:=(List.getElem?_eq_some_iff.mp hc).1;have cc:=w.co.2 c (List.mem_of_getElem? hc);have ltk:(cols.take (m+i)).length=m+i:=by rw[List.length_take];omega
    have fd:(cols.take (m+i)).findIdx? (isC c.2.1 c.2.2.1 c.2.2.2)=none:=by
     rw[List.findIdx?_eq_none_iff];intro y hy;cases hq:isC c.2.1 c.2.2.1 c.2.2.2 y with
     | false=>rfl
     | true=>
      rw[zm] at hq;obtain⟨j,hj,rfl⟩:=List.getElem_of_mem hy;rw[ltk] at hj;rw[List.getElem_take] at hq;have q1:(cols.map kc)[j]? =some (kc c):=by rw[List.getElem?_map,List.getElem?_eq_getElem (by omega)];show some (kc cols[j])=_;rw[hq];rfl
      have q2:(cols.map kc)[m+i]? =some (kc c):=by rw[List.getElem?_map,hc];rfl
      have:=(List.getElem?_inj (by rw[List.length_map];omega) w.nd).mp (q1.trans q2.symm);omega
    have c16:=w.c16;obtain⟨⟨dx,hp⟩,cvf⟩:=id pf;refine bz _ Z Fp dx _ Z hp (dM (by decide+kernel)) (fB _ Z (bx Fp lf _ _ Z pf (by omega) cc.tc (fun a' r' g' b' e c6=>?_) fun hb=>(by rw[cc.yes] at hb;cases hb)));cases e;refine wj (cc.inj c6) fun e0_ e1_ e2_=>?_;subst e0_;subst e1_;subst e2_;refine⟨fun j hj=>(by rw[fd] at hj;cases hj),fun _ h16'=>absurd h16' (by omega),fun _ _ H4 k6 e6=>?_⟩;have f:wK lf H3 H4:=k6;have el:=pf.2.1;refine yU (w.fr0 f el nA nh no nl) ⟨⟨dx,f.oth el hp (fun ys z=>by cases z)⟩,?_⟩ (f _ _ eL nLf) ⟨_,Z⟩;rw[show m+(i+1)=m+i+1 by omega,List.take_add_one,hc];exact bA.snoc e6 (fun d hd=>f.col el (cvf.2 d hd)) (f.col el cc)
   ·rintro σ H3 ⟨w,pf,eL,v15,rfl⟩;rw[List.length_map,List.length_drop,show m+(cols.length - m)=cols.length by omega,List.take_length] at pf;have c16:=w.c16;refine bG _ Z _ Z _ Z (gb A0 o Fp lf ps rows (xx wd cols Z w.pic w.gd w.co pf w.mx (yU w.nd (by omega) w.tab fun H5 ok5=>⟨_,Z,?_⟩)));exact k20 v1 v2 v3 v8 v9 v10 v11 v12 v13 _ _ A0 ps o P0 l hd hs rows wd cols H5 (w.ok ok5)
  obtain⟨t15,r15,k15⟩:∃tr,qz ((jx gG P w K mg base vg "law" (aA ie) f cdv A outer s H E).nox) ((bJ ie).drop 15) tr/\
    ∀(v1 v2 v3 v8 v9 v10 v12:Option V)(A0:Addr)(ps:List Addr)(o P0 l hd:Addr)(hs:List Addr)(rows:List (List Int))(wd:Nat)(cols:List (C4))(x:V)(H1:Hp),Lw K cL ms H1 A0 ps o P0 l hd hs rows wd cols->Kd K H1 x->tr {nx:=fun _ H'=>Q .non H',rt:=Q} [some (.ref a),v1,v2,v3,some (.ref A0),some (.ref o),some (.ref P0),some (.ref hd),v8,v9,v10,some x,v12,none,none,none,none] H1:=by
   refine⟨_,(ao (aK (i:=13) fH.nd Z (by walk_at "o") (aR (rD K Z Z) Z T.max PyProof.Rows.boot_max (aa (bH (N:=["_law_row"]) (src:=[none]) Z ⟨Z,Z,Z,Z,Z,by decide+kernel⟩ (oY K Z (pv 4)) (fun s H C fp=>aJ (i:=0) (show(["_law_row"]:List Str).Nodup by decide+kernel) Z (by walk_at "o")) (fun s H C fp=>bF) (fun s H C fp=>(aR (rD K Z Z) Z T.max PyProof.Rows.boot_max (aa (pv 0) aj)))) aj)))
    (ao (aK (i:=14) fH.nd Z (by walk_at "o") (qG g_Palette (hr.mono (by decide)) jc Z (aa (fX (Hg K Z) (pv 5) iM (iy (aR (EY Z) Z T.max PyProof.Rows.boot_max (aa aq (aa (pv 13) aj))))) aj)))
    (ao (gm PassesOwn.never Z (Ka K Z (bZ (aa aq (aa aq aj)))) (aJ (i:=12) fH.nd Z (by walk_at "o")) (az (bN (PW.pt (Dh (aW rm (pv 13) aq (aZ _)) (yo (aW (sS K Z hu) (aD g__law_refused (hr.mono (by decide)) Z (aa (pv 12) (aa (pv 7) (aa (pv 14) (aa (pv 11) aj))))) (bZ (aa dC aj)) (aZ _))))) (az (aN fM)) aX)))
    (@r18)))),?_⟩
   intro v1 v2 v3 v8 v9 v10 v12 A0 ps o P0 l hd hs rows wd cols x H1 w kx;have pic:=w.pic;have gd:=w.gd;refine bc _ Z A0 Z ⟨_,aP.of pic.top⟩ fun D hD=>?_;refine bR (k:=0) (fun x=> .int (dH (((rowOf H1 x).getD []).map iv))) (fun _=>true) (src_list (aP.of pic.top)) (by rw[List.length_map,pic.len,c7];exact Nat.le_trans gd.le (by decide)) hD (fun x _ H' Qb _ kk=>kk H' (aC.refl _)) (fun x hx _ H' Q' sm' kk=>?_) fun H2 s2 hD2=>?_
   ·refine aO (List.mem_map.mp hx) fun y hy e2_=>?_;subst e2_;refine kE (gd.mem2 pic hy) fun rs ey hl' hcs hmem=>?_;have kk:=kk H' (aC.refl _);rw[aV ey] at kk;have kk:Q' (.int (dH ((rs.map V.int).map iv))) H':=kk;rw[zu] at kk;exact aM _ Z y rs Z (aP.of (sm' _ _ ey)) (fun z=>(by rw[z] at hl';have:=gd.w1;simp at hl';omega)) kk
   have eD:H2 D=some (.lst ((rows.map dH).map V.int)):=by rw[hD2,cU,Hx (fun r=> .int (dH r)) ps rows pic.row,List.map_map];rfl
   have rne:rows.map dH≠[]:=fun z=>by have h:=congrArg List.length z;rw[List.length_map] at h;have:=gd.ne;rw[h] at this;exact absurd this (by decide)
   refine cR D (rows.map dH) Z (aP.of eD) rne ?_;show fK 13 (.int (dH (rows.map dH))) _ _ _;rw[Km gd];have w:=w.mono s2;have kx:=kx.mono s2;have mx0:=(gd.flat_mem (gB gd.fne)).1;have mxl:=w.mx;clear hD2 eD
   obtain⟨m,em,m1,mc,mm⟩:∃m:Nat,(m:Int)=(if(1:Int)<dH rows.flatten then dH rows.flatten else 1)/\1<=m/\m<=cols.length/\(0<dH rows.flatten->(m:Int)=dH rows.flatten):=by have:=w.c1;refine kJ ((if(1:Int)<dH rows.flatten then dH rows.flatten else 1).toNat) ?_ ?_ ?_ fun h=>?_<;>split<;>omega
   refine bT _ Z _ Z (mF _ _ Z (bC (m:Int) ?_ o _ Z (aP.of w.co.1) fun L hL=>?_))
   ·rw[em]
   rw[sV,<-List.map_take];have z3:=au (o:=HO.lst ((cols.take m).map (fun c:C4=>V.ref c.1))) hL;have vL:bA (upd H2 L (HO.lst ((cols.take m).map (fun c:C4=>V.ref c.1)))) L (cols.take m):=⟨ak,fun c hc=>(w.co.2 c (List.mem_of_mem_take hc)).mono z3⟩;have w:=w.mono z3;have kx:=kx.mono z3;generalize upd H2 L (HO.lst ((cols.take m).map (fun c:C4=>V.ref c.1)))=H3 at z3 vL w kx⊢;have ltm:(cols.take m).length=m:=by rw[List.length_take];omega
   have c16:=w.c16;intro Fp dx_ hFp hdx_ hne_;refine uq hFp hdx_ hne_ vL (by omega) (by omega) (by rw[List.map_take];exact w.nd.sublist (List.take_sublist _ _)) fun lf H4 s4 hlf _ pf=>?_;clear hdx_ hne_;have nA:=yq w.pic hlf;have nh:=yq w.hnd hlf;have no:lf≠o:=fun z=>by rw[z,w.co.1] at hlf;cases hlf
   have nl:lf≠l:=fun z=>by rw[z,w.pal.2.1] at hlf;cases hlf
   have w:=w.mono s4;have kx:=kx.mono s4;refine⟨uw,fun T3 hT3=>?_⟩;have z5:=au (o:=HO.tup [V.int 1,.int 2]) hT3;refine dU T3 Z ⟨_,d7.of ak⟩ ?_;refine yF (xs:=[V.int 1,.int 2]) (fun i σ H6=>Lw K cL ms H6 A0 ps o P0 l hd hs rows wd cols/\Kd K H6 x/\fW cL H6 Fp lf (cols.take m)/\H6 T3=some (.tup [V.int 1,.int 2])/\∃w12:Option V,σ=[some (.ref a),v1,v2,v3,some (.ref A0),some (.ref o),some (.ref P0),some (.ref hd),v8,v9,v10,some x,w12,some (.int (dH rows.flatten)),some (.ref Fp),none,none]) (O7 (w.mono z5) (kx.mono z5) (pf.mono z5) ak ⟨_,Z⟩) (fun i σ H6 _ q=>d7.of q.2.2.2.1) ?_ ?_
   ·rintro i y σ H6 hy ⟨w,kx,pf,e3,w12,rfl⟩
    obtain⟨way,rfl,hway⟩:∃way:Int,y= .int way/\(way=1\/way=2):=by
     match i,hy with
     | 0,hy=>cases hy;exact⟨1,Z,.inl Z⟩
     | 1,hy=>cases hy;exact⟨2,Z,.inr Z⟩
    refine⟨_,Z,_,_,Z,Z,_,Z,nZ (fun h=>?_) (fun h=>⟨w,kx,pf,e3,_,Z⟩)⟩;have hpos:0<dH rows.flatten:=of_decide_eq_true h;refine⟨_,Z,_,Z,_,Z,_,Z,.ref hd,x,Fp,lf,_,way,Z,pf,w.tab,kx,.inr ⟨hd,hs,rows,wd,Z,w.hnd,w.gd,.inl ⟨by rw[ltm,mm hpos];exact Int.le_refl _,hway,fun u H7 s7 _ eu=>?_⟩⟩⟩;refine⟨uC,fun u2 hu2=>?_⟩;have z8:=au (o:=HO.tup [V.str "none"]) hu2;have s8:=s7.trans z8;exact⟨0,u,u2,true,by decide,Z,Z,yE (z8 _ _ eu) ak (fun y hy=>(by rw[List.mem_singleton.mp hy];exact .inr Z)),_,Z,w.mono s8,kx.mono s8,pf.mono s8,s8 _ _ e3,_,Z⟩
   ·rintro σ H6 ⟨w,kx,pf,e3,w12,rfl⟩;exact k18 v1 v2 v3 v8 v9 v10 _ _ _ A0 ps o P0 l hd hs rows wd cols Fp lf m H6 w pf m1 mc nA nh no nl
  obtain⟨t13,r13,k13⟩:∃tr,qz ((jx gG P w K mg base vg "law" (aA ie) f cdv A outer s H E).nox) ((bJ ie).drop 13) tr/\
    ∀(v1 v2 v3 v8 v9:Option V)(A0:Addr)(ps:List Addr)(o P0 l hd:Addr)(hs:List Addr)(rows:List (List Int))(wd:Nat)(cols:List (C4))(bv x:V)(H1:Hp),Lw K cL ms H1 A0 ps o P0 l hd hs rows wd cols->jy K H1 bv->Kd K H1 x->cQ 1 16 x=false->tr {nx:=fun _ H'=>Q .non H',rt:=Q} [some (.ref a),v1,v2,v3,some (.ref A0),some (.ref o),some (.ref P0),some (.ref hd),v8,v9,some bv,some x,none,none,none,none,none] H1:=by
   refine⟨_,(ao (gm PassesOwn.never Z (eE Z T.range (aa aq aj)) (aJ (i:=12) fH.nd Z (by walk_at "o")) (az (bN (aW (sS K Z hu) (aD g__law_refused (hr.mono (by decide)) Z (aa (pv 12) (aa (pv 10) (aa (pv 6) (aa (pv 11) aj))))) (bZ (aa dC aj)) (aZ _)) (az (aN fM)) aX)))
    (ao (bN (aW (sS K Z hu) (aD g__law_refused (hr.mono (by decide)) Z (aa aq (aa (pv 7) (aa (pv 6) (aa (pv 11) aj))))) (bZ (aa dC aj)) (aZ _)) (az (aN fM)) aX)
    (@r15))),?_⟩
   intro v1 v2 v3 v8 v9 A0 ps o P0 l hd hs rows wd cols bv x H1 w bad kx hx;refine kJ _ Z (by decide) (by decide) ?_;refine mC (lo:=0) (n:=3) (fun i σ H2=>Lw K cL ms H2 A0 ps o P0 l hd hs rows wd cols/\jy K H2 bv/\Kd K H2 x/\∃w12:Option V,σ=[some (.ref a),v1,v2,v3,some (.ref A0),some (.ref o),some (.ref P0),some (.ref hd),v8,v9,some bv,some x,w12,none,none,none,none]) (yU w bad kx ⟨none,Z⟩) ?_ ?_
   ·rintro i σ H2 hi ⟨w,bad,kx,w12,rfl⟩;refine fB _ Z (bG _ Z _ Z _ Z (sX bv x P0 l cols _ Z w.pal w.tab kx (.inl ⟨bad,by omega,fun u H7 s7 _ eu=>?_⟩)));refine⟨uC,fun u2 hu2=>?_⟩;have z8:=au (o:=HO.tup [V.str "picture"]) hu2;have s8:=s7.trans z8;exact⟨0,u,u2,true,by decide,Z,Z,yE (z8 _ _ eu) ak (fun y hy=>(by rw[List.mem_singleton.mp hy];exact .inr Z)),_,Z,w.mono s8,bad.mono s8,kx.mono s8,_,Z⟩
   ·rintro σ H2 ⟨w,bad,kx,w12,rfl⟩;refine bG _ Z _ Z _ Z (sX (.ref hd) x P0 l cols 2 Z w.pal w.tab kx (.inr (fV hd hs rows wd Z w.hnd w.gd (.inr (yU w.mx Z hx fun u H7 s7 _ eu=>?_)))));refine⟨uC,fun u2 hu2=>?_⟩;have z8:=au (o:=HO.tup [V.str "size"]) hu2;have s8:=s7.trans z8;refine aU 0 u u2 true (by decide) Z Z (yE (z8 _ _ eu) ak (fun y hy=>(by rw[List.mem_singleton.mp hy];exact .inr Z))) (fB _ Z ?_);exact k15 v1 v2 v3 v8 v9 _ _ A0 ps o P0 l hd hs rows wd cols x _ (w.mono s8) (kx.mono s8)
  obtain⟨t12,r12,k12⟩:∃tr,qz ((jx gG P w K mg base vg "law" (aA ie) f cdv A outer s H E).nox) ((bJ ie).drop 12) tr/\
    ∀(v1 v2 v3 v9:Option V)(mo:Nat)(A0:Addr)(ps:List Addr)(o P0 l hd:Addr)(hs:List Addr)(rows:List (List Int))(wd:Nat)(cols:List (C4))(bv:V)(H1:Hp),Lw K cL ms H1 A0 ps o P0 l hd hs rows wd cols->jy K H1 bv->tr {nx:=fun _ H'=>Q .non H',rt:=Q} [some (.ref a),v1,v2,v3,some (.ref A0),some (.ref o),some (.ref P0),some (.ref hd),some (.int (mo:Int)),v9,some bv,none,none,none,none,none,none] H1:=by
   refine⟨_,(ao (aK (i:=11) fH.nd Z (by walk_at "o") (bw (lJ K Z) (bW (aa aq (aa aq (aa (xP rT aq) (aa fM (aa zr (aa dC (aa (bW (aa aq aj)) (aa (aG yx aq aq) aj))))))))) (aG bO (aG dq (pv 8) aq) aq) (fun _ _=>Z)))
    (@r13)),?_⟩
   intro v1 v2 v3 v9 mo A0 ps o P0 l hd hs rows wd cols bv H1 w bad;refine dU _ Z uC fun p hp=>?_;have z1:=au (o:=HO.lst [V.int 1]) hp;refine gJ _ _ Z Z ⟨by decide,by decide,by decide⟩ Sq fun L hL=>?_;refine aO (yg (xs:=[V.int 0,.int 17,.int (-1),.bl true,.non,.str "1",.ref p,.int (10 ^ 20)]) (m:=(mo:Int) / 64) 8 Z (by decide)) fun x hm hx=>?_;have z2:=au (o:=HO.lst [V.int 0,.int 17,.int (-1),.bl true,.non,.str "1",.ref p,.int (10 ^ 20)]) hL;refine aM _ Z _ _ Z Z ⟨by decide,by decide⟩ (cR _ _ Z Z (by show(0:Int)<8;decide) (aU L _ _ x Z Z (aP.of ak) hx ?_));have ep:=z2 p (.lst [.int 1]) ak;have hb:Kd K _ x/\cQ 1 16 x=false:=KJ ep hm;have zz:=z1.trans z2;exact k13 v1 v2 v3 _ _ A0 ps o P0 l hd hs rows wd cols bv x _ (w.mono zz) (bad.mono zz) hb.1 hb.2
  obtain⟨t9,r9,k9⟩:∃tr,qz ((jx gG P w K mg base vg "law" (aA ie) f cdv A outer s H E).nox) ((bJ ie).drop 9) tr/\
    ∀(v1 v2 v3:Option V)(A0:Addr)(ps:List Addr)(o P0 l hd:Addr)(hs:List Addr)(rows:List (List Int))(wd:Nat)(cols:List (C4))(H1:Hp),Lw K cL ms H1 A0 ps o P0 l hd hs rows wd cols->aP K H1 a (ns.map V.int)->tr {nx:=fun _ H'=>Q .non H',rt:=Q} [some (.ref a),v1,v2,v3,some (.ref A0),some (.ref o),some (.ref P0),some (.ref hd),none,none,none,none,none,none,none,none,none] H1:=by
   refine⟨_,(ao (aK (i:=8) fH.nd Z (by walk_at "o") (aD g__law_draw (hr.mono (by decide)) Z (aa (pv 0) (aa aq aj))))
    (ao (aK (i:=9) fH.nd Z (by walk_at "o") (bw (lJ K Z) (bW (aa aq (aa (xP rT aq) (aa fM (aa zr (aa dC (aa (bW (aa aq aj)) (aa (aG yx aq aq) aj)))))))) (aG bO (pv 8) aq) (fun _ _=>Z)))
    (ao (aK (i:=10) fH.nd Z (by walk_at "o") (aD g__law_no_picture (hr.mono (by decide)) Z (aa (pv 4) (aa (pv 9) (aa (aG dq (pv 8) aq) aj)))))
    (@r12)))),?_⟩
   intro v1 v2 v3 A0 ps o P0 l hd hs rows wd cols H1 w hS;refine bz _ Z a ns 1 Z hS (by decide) fun mo H2 _ s2=>?_;have w:=w.mono s2;refine dU _ Z uC fun p hp=>?_;have z1:=au (o:=HO.lst [V.int 0]) hp;refine gJ _ _ Z Z ⟨by decide,by decide,by decide⟩ SJ fun L hL=>?_;refine aO (yg (xs:=[V.int 16,.int (-1),.bl true,.non,.str "0",.ref p,.int (10 ^ 20)]) (m:=(mo:Int)) 7 Z (by decide)) fun x hm hx=>?_;have z2:=au (o:=HO.lst [V.int 16,.int (-1),.bl true,.non,.str "0",.ref p,.int (10 ^ 20)]) hL;refine aM _ Z _ _ Z Z (by show(0:Int)<7;decide) (aU L _ _ x Z Z (aP.of ak) hx ?_);have ep:=z2 p (.lst [.int 0]) ak;have hb:Kd K _ x/\cQ 0 15 x=false:=M7 ep hm;have zz:=z1.trans z2;have w:=w.mono zz;refine bT _ Z _ Z (aM _ Z _ _ Z Z ⟨by decide,by decide⟩ (mU A0 ps rows wd x (mo / 7) ?_ w.pic w.gd hb.1 hb.2 fun bv H5 s5 bad=>?_))
   ·show[V.ref A0,x,V.int ((mo:Int) / 7)]=_;rw[show(mo:Int) / 7=((mo / 7:Nat):Int) by omega]
   exact k12 v1 v2 v3 _ mo A0 ps o P0 l hd hs rows wd cols bv H5 (w.mono s5) bad
  obtain⟨t7,r7,k7⟩:∃tr,qz ((jx gG P w K mg base vg "law" (aA ie) f cdv A outer s H E).nox) ((bJ ie).drop 7) tr/\
    ∀(v2 v3:Option V)(n:Nat)(A0:Addr)(ps:List Addr)(o P0 l hd:Addr)(hs:List Addr)(rows:List (List Int))(wd:Nat)(cols:List (C4))(H1:Hp),Lw K cL ms H1 A0 ps o P0 l hd hs rows wd cols->aP K H1 a (ns.map V.int)->tr {nx:=fun _ H'=>Q .non H',rt:=Q} [some (.ref a),some (.int (n:Int)),v2,v3,some (.ref A0),some (.ref o),some (.ref P0),some (.ref hd),none,none,none,none,none,none,none,none,none] H1:=by
   refine⟨_,(ao (bN (PW.pt (jw (cW (bU (aD g__law_counts_good (hr.mono (by decide)) Z (aa (pv 7) aj)))) (jw (cW (bU (aD g__law_ordered_good (hr.mono (by decide)) Z (aa (pv 7) (aa (pv 5) (aa (pv 6) aj)))))) (iG (aW (sS K Z hu) (pv 7) (pv 4) (aZ _)))))) (az (aN fM)) aX)
    (ao (bN (PW.pt (jw (cW (bU (aD g__law_all_fewer (hr.mono (by decide)) Z (aa (pv 4) (aa (pv 5) (aa (pv 6) (aa (aG bO (aG dq (pv 1) aq) aq) aj))))))) (iG (cW (bU (aD g__law_beside_good (hr.mono (by decide)) Z (aa (pv 4) (aa (pv 5) aj)))))))) (az (aN fM)) aX)
    (@r9))),?_⟩
   intro v2 v3 n A0 ps o P0 l hd hs rows wd cols H1 w hS;refine cX _ Z hd hs rows wd Z w.hnd w.gd fun H2 s2=>⟨_,Z,?_⟩;have w:=w.mono s2;have hS:=s2.seq hS;have c16:=w.c16;refine bG _ Z _ Z _ Z (gb hd o P0 l hs rows (xx wd cols Z w.hnd w.gd w.co w.pal w.mx (yU w.nd (by omega) w.tab fun H3 ok3=>⟨_,Z,?_⟩)));have hS:=(w.tab.nt ok3.but).sq hS;have w:=w.ok ok3;refine aH _ Z _ Z 2 hd A0 true (by decide) Z Z (mZ w.hnd w.pic (ig lw)) (fB _ Z ?_);refine bG _ Z _ Z _ Z (aM _ Z _ _ Z Z ⟨by decide,by decide⟩ (cR _ _ Z Z (by show(0:Int)<3;decide) (gb A0 o P0 l ps rows (nj wd cols _ Z w.pic w.gd w.co w.pal w.mx ⟨w.tab,fun H4 ok4=>⟨_,Z,?_⟩⟩))));have hS:=(w.tab.nt ok4.but).sq hS;have w:=w.ok ok4;refine bT _ Z _ Z (gC A0 o ps rows wd cols Z w.pic w.gd w.co w.mx w.nd (yU w.c1 w.c16 w.tab fun H5 ok5=>⟨_,Z,?_⟩));have hS:=(w.tab.nt ok5.but).sq hS;exact k9 _ v2 v3 A0 ps o P0 l hd hs rows wd cols H5 (w.ok ok5) hS
  refine⟨_,(ao (aK (i:=1) fH.nd Z (by walk_at "o") (aD g__law_draw (hr.mono (by decide)) Z (aa (pv 0) (aa aq aj))))
    (ao (aK (i:=2) fH.nd Z (by walk_at "o") (aD g__law_pool (hr.mono (by decide)) Z (aa (pv 0) (aa aq (aa (jH nC (aG bO (pv 1) aq) aq (aZ _)) aj)))))
    (ao (aK (i:=3) fH.nd Z (by walk_at "o") (aG dw aq (aG bO (aG dq (pv 1) aq) (aR (rG Z) Z T.min PyProof.Rows.boot_min (aa aq (aa (aR (nH K Z) Z T.len PySem.boot_len (aa (pv 2) aj)) aj))))))
    (ao (aK (i:=4) fH.nd Z (by walk_at "o") (aD g__law_picture (hr.mono (by decide)) Z (aa (pv 0) (aa aq (aa (pv 3) aj)))))
    (ao (aK (i:=5) fH.nd Z (by walk_at "o") (fX (Hg K Z) (pv 2) iM (iy (aG dw (pv 3) (aG bO (aG dq (pv 1) aq) (aG dw (aG pY (aR (rG Z) Z T.min PyProof.Rows.boot_min (aa aq (aa (aR (nH K Z) Z T.len PySem.boot_len (aa (pv 2) aj)) aj))) (pv 3)) aq))))))
    (ao (aK (i:=6) fH.nd Z (by walk_at "o") (qG g_Palette (hr.mono (by decide)) jc Z (aa (dh (sY K Z) Z T.list PyProof.Rows.boot_list (aa (pv 5) aj)) aj)))
    (ao (aK (i:=7) fH.nd Z (by walk_at "o") (aD g__law_copied (hr.mono (by decide)) Z (aa (pv 4) aj)))
    (@r7)))))))),?_⟩
  refine bz _ Z a ns 0 Z hS (by decide) fun n H1 hn s1=>?_;refine bT _ Z _ Z (gJ _ _ Z Z (by show(0:Int)<2;decide) Z (fV a ns 60 _ Z (s1.seq hS) (by decide) fun pl ds H2 s2 hpl cp d1 d2 nd=>?_));have s02:=s1.trans s2;have lp:(ds.map fun c=>V.ref c.1).length=ds.length:=List.length_map _;have em:(if((((ds.map fun c=>V.ref c.1).length:Nat):Int))<16 then((((ds.map fun c=>V.ref c.1).length:Nat):Int)) else 16)=((min 16 ds.length:Nat):Int):=by rw[lp];split<;>omega
  obtain⟨m1,em1,l1a,l1b⟩:∃m1:Nat,(1:Int)+(n:Int) / 2 % ((min 16 ds.length:Nat):Int)=(m1:Int)/\1<=m1/\m1<=min 16 ds.length:=by refine dU (1+n / 2 % min 16 ds.length) (by push_cast;rfl) (by omega) ?_;have:=Nat.mod_lt (n / 2) (show 0<min 16 ds.length by omega);omega
  obtain⟨m2,em2,l2a,l2b⟩:∃m2:Nat,(m1:Int)+(n:Int) / 32 % (((min 16 ds.length:Nat):Int) - (m1:Int)+1)=(m2:Int)/\m1<=m2/\m2<=min 16 ds.length:=by
   have hp:(0:Int)<((min 16 ds.length:Nat):Int) - (m1:Int)+1:=by omega
   have f0:=Int.emod_nonneg ((n:Int) / 32) (show((min 16 ds.length:Nat):Int) - (m1:Int)+1≠0 by omega);have f1:=Int.emod_lt_of_pos ((n:Int) / 32) hp;exact dU (((m1:Int)+(n:Int) / 32 % (((min 16 ds.length:Nat):Int) - (m1:Int)+1)).toNat) (by omega) (by omega) (by omega)
  have hS:=s02.seq hS;have tab:=tab.mono s02;refine aM _ Z _ _ Z Z ⟨by decide,by decide⟩ (bC _ Z pl _ Z (.inl (aP.of cp.1)) (mF _ _ Z (cR _ _ Z Z (by show(0:Int)<(if((((ds.map fun c=>V.ref c.1).length:Nat):Int))<16 then((((ds.map fun c=>V.ref c.1).length:Nat):Int)) else 16);rw[em];omega) (di _ _ Z Z ?_))));show fK 3 (.int (1+(n:Int) / 2 % (if((((ds.map fun c=>V.ref c.1).length:Nat):Int))<16 then((((ds.map fun c=>V.ref c.1).length:Nat):Int)) else 16))) _ _ _;rw[em,em1];refine bT _ Z _ Z (bx a ns 2 m1 Z hS (by decide) l1a (by omega) fun A0 ps rows wd H3 s3 hA frp pic gd lt=>?_);have hS:=s3.seq hS;have tab:=tab.mono s3;have cp:=cp.mono s3;refine bT _ Z _ Z (aM _ Z _ _ Z Z ⟨by decide,by decide⟩ (bC _ Z pl _ Z (.inl (aP.of cp.1)) (mF _ _ Z (bC _ Z _ _ Z Z (du _ _ Z Z _ _ Z Z (by show(0:Int)<(if((((ds.map fun c=>V.ref c.1).length:Nat):Int))<16 then((((ds.map fun c=>V.ref c.1).length:Nat):Int)) else 16) - (m1:Int)+1;rw[em];omega) (di _ _ Z Z (bC (m2:Int) ?_ pl _ Z (aP.of cp.1) fun o ho=>?_)))))))
  ·show V.int ((m1:Int)+(n:Int) / 32 % ((if((((ds.map fun c=>V.ref c.1).length:Nat):Int))<16 then((((ds.map fun c=>V.ref c.1).length:Nat):Int)) else 16) - (m1:Int)+1))=_;rw[em,em2]
  rw[sV,<-List.map_take];have z4:=au (o:=HO.lst ((ds.take m2).map (fun c:C4=>V.ref c.1))) ho;have co:bA (upd H3 o (HO.lst ((ds.take m2).map (fun c:C4=>V.ref c.1)))) o (ds.take m2):=⟨ak,fun c hc=>(cp.2 c (List.mem_of_mem_take hc)).mono z4⟩;generalize upd H3 o (HO.lst ((ds.take m2).map (fun c:C4=>V.ref c.1)))=H4 at z4 co⊢;have hS:=z4.seq hS;have tab:=tab.mono z4;have pic:=pic.mono z4;have ltm:(ds.take m2).length=m2:=by rw[List.length_take];omega
  have ndc:((ds.take m2).map kc).Nodup:=by rw[List.map_take];exact nd.sublist (List.take_sublist _ _)
  refine bC _ Z o _ Z (.inl (aP.of co.1)) fun L hL=>?_;have z5:=au (o:=HO.lst ((ds.take m2).map (fun c:C4=>V.ref c.1))) hL;have vL:bA (upd H4 L (HO.lst ((ds.take m2).map (fun c:C4=>V.ref c.1)))) L (ds.take m2):=⟨ak,fun c hc=>(co.2 c hc).mono z5⟩;generalize upd H4 L (HO.lst ((ds.take m2).map (fun c:C4=>V.ref c.1)))=H5 at z5 vL⊢;intro P0 dx_ hP hdx_ hne_;refine uq hP hdx_ hne_ vL (by omega) (by omega) ndc fun l H6 s6 hl _ pal=>?_;have s46:=z5.trans s6;have hS:=s46.seq hS;have tab:=tab.mono s46;have pic:=pic.mono s46;have co:=co.mono s46;refine bz _ Z A0 ps (ir rows) Z pic (by rw[c7];exact Nat.le_trans gd.le (by decide)) fun hd hs H7 s7 hhd frh ph=>?_;refine k7 _ _ n A0 ps o P0 l hd hs rows wd (ds.take m2) H7 ⟨tab.mono s7,pic.mono s7,gd,co.mono s7,pal.mono s7,ph,?_,ndc,by omega,fun z=>?_⟩ (s7.seq hS)
  ·refine aO (List.mem_flatten.mp (gB gd.fne)) fun r hr hc=>?_;have:=lt r hr _ hc;rw[ltm];omega
  ·rcases List.mem_cons.mp z with z | z
   ·rw[<-z,pal.2.1] at hhd;cases hhd
   ·have:=frh l z;rw[pal.2.1] at this;cases this
end
end K19
namespace L2
open PySem PySem.Spec PyProof.Rows
section
variable{P:Program}{w:World}{K:W.Frag}{mg:Str->Option Value}{base:Heap}{C:Addr}
theorem bf.metD {x qual:Str} {st:Stmt} {f:Addr} {fd:FuncData} {ps:List Str} {k:Nat} {sp:Sp} (F:bf K x qual st .none f fd) (G:bD P w K mg base gG k f fd ps sp) (hm:Meth K C x f)
  (h:∀(kV doc pm:Value)(an:Option Addr)(cdv ct:Value)(us:List Value),us.length=ps.length->bindArgs (W.fnOf x qual (iD st) (bJ st) (aA st) .none kV doc pm an cdv ct) ⟨us,[]⟩=pure (ps.zip us)):ym P w K mg base C k x ps sp:=by
 refine bM F.ex fun oc od kV doc pm an cdv ct osl e9_ lk hcd=>?_;subst e9_;exact⟨f,_,G,hm,.all (h kV doc pm an cdv ct)⟩
theorem bf.metX {x qual:Str} {st:Stmt} {f:Addr} {fd:FuncData} {ps:List Str} {k:Nat} {sp:Sp} (F:bf K x qual st .none f fd) (G:bD P w K mg base (kj P w) k f fd ps sp) (hm:Meth K C x f)
  (h:∀(kV doc pm:Value)(an:Option Addr)(cdv ct:Value)(us:List Value),us.length=ps.length->bindArgs (W.fnOf x qual (iD st) (bJ st) (aA st) .none kV doc pm an cdv ct) ⟨us,[]⟩=pure (ps.zip us)):wB P w K mg base C k x ps sp:=by
 refine bM F.ex fun oc od kV doc pm an cdv ct osl e9_ lk hcd=>?_;subst e9_;exact⟨f,_,G,hm,.all (h kV doc pm an cdv ct)⟩
theorem bf.makX {x y qual:Str} {st:Stmt} {f:Addr} {fd:FuncData} {ps:List Str} {k:Nat} {sp:Sp} (F:bf K x qual st .none f fd) (G:bD P w K mg base (kj P w) k f fd ps sp) (M:Mk K C f) (hm:mg y=some (.ref C))
  (h:∀(kV doc pm:Value)(an:Option Addr)(cdv ct:Value)(us:List Value),us.length=ps.length->bindArgs (W.fnOf x qual (iD st) (bJ st) (aA st) .none kV doc pm an cdv ct) ⟨us,[]⟩=pure (ps.zip us)):Ha P w K mg base C k y ps sp:=by
 refine bM F.ex fun oc od kV doc pm an cdv ct osl e9_ lk hcd=>?_;subst e9_;exact⟨f,_,G,M,hm,.all (h kV doc pm an cdv ct)⟩
end
end L2
set_option maxHeartbeats 8000000
namespace K19
open PySem L2
theorem Sg{pO pL pN:Addr}{a b c:Str}(h:[pO,pL,pN].Nodup):∀x∈([(pO,a),(pL,b),(pN,c)]:nQ),∀y∈([(pO,a),(pL,b),(pN,c)]:nQ),x.1=y.1->x=y:=by simp only[List.nodup_cons,List.mem_cons,List.not_mem_nil,or_false,not_or] at h;obtain⟨⟨h1,h2⟩,h4,_⟩:=h;intro x hx y hy e;simp only[List.mem_cons,List.not_mem_nil,or_false] at hx hy;rcases hx with rfl | rfl | rfl<;>rcases hy with rfl | rfl | rfl<;>first | rfl | exact absurd e h1 | exact absurd e h2 | exact absurd e h4 | exact absurd e.symm h1 | exact absurd e.symm h2 | exact absurd e.symm h4
noncomputable def Dn(K:W.Frag)(x:Str)(st:Stmt):Prop:=∃f fd,W.nsIn K mainGlobals x=some (some (.ref f))/\bf K x x st .none f fd
noncomputable def Dt(K:W.Frag)(x:Str)(st:Stmt)(p:Addr):Prop:=∃f fd e,W.nsIn K mainGlobals x=some (some (.ref f))/\bf K x x st .none f fd/\fd.code= .ref e/\W.codeHdIn K e p=true
noncomputable def Dm(K:W.Frag)(c:Addr)(x q:Str)(st:Stmt):Prop:=∃f fd,W.findIn K (.ref c) x=some (some (.ref f))/\W.isFn K (.ref f)=true/\bf K x q st .none f fd
noncomputable def Nn(K:W.Frag)(x:Str):Prop:=W.nsIn K mainGlobals x=some none
noncomputable def Nv(K:W.Frag)(x:Str)(v:Value):Prop:=W.nsIn K mainGlobals x=some (some v)
noncomputable def Xk(K:W.Frag)(F c:Addr):Prop:=W.excIn K c mroVE "ValueError.__new__"=true/\pK K c/\W.subIn K (.ref c) (.ref F)=some true
noncomputable def Kt(K:W.Frag)(c:Addr):List Addr->List Bool->Prop
 | [],_=>True
 | a::l,[]=>W.kitOne K (.ref c) (.ref a)=some false/\Kt K c l []
 | a::l,b::m=>W.kitOne K (.ref c) (.ref a)=some b/\Kt K c l m
local macro_rules | `(tactic| trivial)=>`(tactic| first | exact fun _ _ _ _ _ _ us hl=>(by obtain⟨_,e⟩:=OD hl;subst e;rfl) | exact fun _ _ _ _ _ _ us hl=>(by obtain⟨_,_,e⟩:=Qc hl;subst e;rfl) | exact fun _ _ _ _ _ _ us hl=>(by obtain⟨_,_,_,e⟩:=Pn hl;subst e;rfl) | exact fun _ _ _ _ _ _ us hl=>(by obtain⟨_,_,_,_,e⟩:=RG hl;subst e;rfl))
theorem MF{l:W.OpenLaw}{w:World}{K:W.Frag}{h:Heap}{mg:Str->Option Value}{fa:Addr}(X:K.In h)(G:h.Ns mainGlobals mg)(hfa:mg "law"=some (.ref fa)){pO pL pN cFE cL cD cC d2 cP cB cZ cN cM d8 d9 d10 d11 d12 d13 d14 d15 d16 d17 d18 d19 d20 d21 d22:Addr}{tP tS tC tI:Tok}(a1:Dn K "is_whole_from" jF)(a2:Dn K "is_whole_within" iU)(a3:Dn K "is_cell" rW)(a4:Dn K "is_side" sH)(a5:Dn K "is_list_of" iQ)(a6:Dn K "are_rows_of" lR)(a7:Dn K "is_picture" mY)(a8:Dn K "need_picture" j5)(a9:Dn K "copied_rows" lQ)(a10:Dn K "all_cells" oh)(a11:Dn K "is_colour" oH)(a12:Dn K "need_colour" lV)(a13:Dn K "apart" yN)(a14:Dn K "is_list_of" iQ)(a15:Dm K cL "__init__" "Palette.__init__" s_Palette.__init__)(a16:Dm K cL "colours" "Palette.colours" s_Palette.colours)(a17:Dm K cL "many" "Palette.many" s_Palette.many)(a18:Dm K cL "colour_of" "Palette.colour_of" s_Palette.colour_of)(a19:Dm K cL "cell_of" "Palette.cell_of" s_Palette.cell_of)(a20:Dm K cL "add_colour" "Palette.add_colour" s_Palette.add_colour)(a21:Dn K "need_cells_below" gU)(a22:Dn K "need_shown" m5)(a23:Dn K "cell_counts" lU)(a24:Dn K "used_cells" mK)(a25:Dt K "ordered_picture" dj pO)(a26:Dt K "least_used" gf pL)(a27:Dt K "nearest_used" eG pN)(a28:Dn K "with_cells_changed" fO)(a29:Dn K "fewer_cells" lE)(a30:Dn K "_law_draw" j6)(a31:Dn K "_law_whole" oE)(a32:Dn K "_law_word" qb)(a33:Dn K "_law_colour" iK)(a34:Dn K "_law_apart" ou)(a35:Dn K "_law_pool" qe)(a36:Dn K "_law_size" ql)(a37:Dn K "_law_picture" lK)(a38:Dn K "_law_copied" m6)(a39:Dn K "_law_rows_good" jB)(a40:Dn K "_law_own" sU)(a41:Dn K "_law_no_picture" cV)(a42:Dn K "_law_counts" mX)(a43:Dn K "_law_used" qd)(a44:Dn K "_law_order" nT)(a45:Dn K "_law_one_less" jT)(a46:Dn K "_law_counts_good" iH)(a47:Dn K "_law_ordered_good" gQ)(a48:Dn K "_law_beside_good" iz)(a49:Dn K "_law_all_fewer" jE)(a50:Dn K "_law_refused" lC)(a51:Dn K "law" ie)(z1:Nn K "len")(z2:Nn K "range")(z3:Nn K "isinstance")(z4:Nn K "int")(z5:Nn K "bool")(z6:Nn K "list")(z7:Nn K "all")(z8:Nn K "enumerate")(z9:Nn K "min")(z10:Nn K "max")(z11:Nn K "sum")(z12:Nn K "tuple")(z13:Nn K "set")(z14:Nn K "sorted")(z15:Nn K "ValueError")(y1:Nv K "MOST_PART" (.int 255 tP))(y2:Nv K "MOST_COLOURS" (.int 16 tS))(y3:Nv K "MOST_CELL" (.int 15 tC))(y4:Nv K "MOST_SIDE" (.int 24 tI))(x1:Nv K "FolioError" (.ref cFE))(x2:Nv K "Palette" (.ref cL))(x3:Nv K "BadCell" (.ref cD))(x4:Nv K "BadColour" (.ref cC))(x5:Nv K "BadPack" (.ref d2))(x6:Nv K "BadPalette" (.ref cP))(x7:Nv K "BadPicture" (.ref cB))(x8:Nv K "BadSize" (.ref cZ))(x9:Nv K "NoColour" (.ref cN))(x10:Nv K "TooMany" (.ref cM))(x11:Nv K "BadRuns" (.ref d8))(x12:Nv K "BadCheck" (.ref d9))(x13:Nv K "BadDeed" (.ref d10))(x14:Nv K "BadEdge" (.ref d11))(x15:Nv K "BadHead" (.ref d12))(x16:Nv K "BadMask" (.ref d13))(x17:Nv K "BadName" (.ref d14))(x18:Nv K "BadPart" (.ref d15))(x19:Nv K "BadRule" (.ref d16))(x20:Nv K "BadText" (.ref d17))(x21:Nv K "NoPart" (.ref d18))(x22:Nv K "NoPicture" (.ref d19))(x23:Nv K "NothingDone" (.ref d20))(x24:Nv K "OutOfPlace" (.ref d21))(x25:Nv K "Twice" (.ref d22))(q1:W.plainGet K cL Str.empty=true)(q2:W.hasDictIn K cL=true)(q3:W.plainOver K cL=true)(q4:W.findIn K (.ref cL) "__setattr__"=some (some (.builtin "object.__setattr__")))(q5:W.findIn K (.ref cL) "kept"=some none)(q6:W.makesIn K cL=true)(q7:W.keepIn K (.ref cL)=true)(q8:W.subIn K (.ref cFE) (.type "BaseException")=some true)(q9:W.isClsIn K cFE=true)(q10:W.typeIn K (.ref cFE)=some (.type "type"))(q11:W.findIn K (.ref cL) "__class__"=some (some (.builtin "object.__class__")))(q12:W.specialIn K (.builtin "object.__class__") "__get__"=some (some (.builtin "getset_descriptor.__get__")))(q13:W.takesIn K (.builtin "object.__class__")=some true)(q14:W.mroIn K cL (.type "object")=some true)(q15:W.kitOne K (.ref cL) (.ref cL)=some true)(eC:Xk K cFE cC)(eN:Xk K cFE cN)(eM:Xk K cFE cM)(eP:Xk K cFE cP)(eB:Xk K cFE cB)(eD:Xk K cFE cD)(eZ:Xk K cFE cZ)(iN:W.kitOne K (.ref cN) (.type "ValueError")=some true)(kN:Kt K cN [cD,cC,d2,cP,cB,cZ,cN,cM,d8,d9,d10,d11,d12,d13,d14,d15,d16,d17,d18,d19,d20,d21,d22] [false,false,false,false,false,false,true,false,false])(iB:W.kitOne K (.ref cB) (.type "ValueError")=some true)(kB:Kt K cB [cD,cC,d2,cP,cB,cZ,cN,cM,d8,d9,d10,d11,d12,d13,d14,d15,d16,d17,d18,d19,d20,d21,d22] [false,false,false,false,true,false,false,false,false])(iZ:W.kitOne K (.ref cZ) (.type "ValueError")=some true)(kZ:Kt K cZ [cD,cC,d2,cP,cB,cZ,cN,cM,d8,d9,d10,d11,d12,d13,d14,d15,d16,d17,d18,d19,d20,d21,d22] [false,false,false,false,false,true,false,false,false])(nP:[pO,pL,pN].Nodup)
  :∃fd:FuncData,(∀(s:Shared)(v:Value),BindsTo s fd ⟨[v],[]⟩ [("_law_script",v)])/\∀base:Heap,K.In base->base.Ns mainGlobals mg->BMain mg base->bD l.prog w K mg base gG 13 fa fd ["_law_script"] (DX [(pO,qO),(pL,qL),(pN,qN)] K):=by
 have M:∀{n v},W.nsIn K mainGlobals n=some (some v)->mg n=some v:=fun e=>W.mg_of X G e;have Z:∀{n},W.nsIn K mainGlobals n=some none->mg n=none:=fun e=>W.mg_none_of X G e;obtain⟨f1,d1F,a1,F1⟩:=a1;obtain⟨f2,d2F,a2,F2⟩:=a2;obtain⟨f3,d3F,a3,F3⟩:=a3;obtain⟨f4,d4F,a4,F4⟩:=a4;obtain⟨f5,d5F,a5,F5⟩:=a5;obtain⟨f6,d6F,a6,F6⟩:=a6;obtain⟨f7,d7F,a7,F7⟩:=a7;obtain⟨f8,d8F,a8,F8⟩:=a8;obtain⟨f9,d9F,a9,F9⟩:=a9;obtain⟨f10,d10F,a10,F10⟩:=a10;obtain⟨f11,d11F,a11,F11⟩:=a11;obtain⟨f12,d12F,a12,F12⟩:=a12;obtain⟨f13,d13F,a13,F13⟩:=a13;obtain⟨f14,d14F,a14,F14⟩:=a14;obtain⟨f15,d15F,a15,i15,F15⟩:=a15;obtain⟨f16,d16F,a16,i16,F16⟩:=a16;obtain⟨f17,d17F,a17,i17,F17⟩:=a17;obtain⟨f18,d18F,a18,i18,F18⟩:=a18;obtain⟨f19,d19F,a19,i19,F19⟩:=a19;obtain⟨f20,d20F,a20,i20,F20⟩:=a20;obtain⟨f21,d21F,a21,F21⟩:=a21;obtain⟨f22,d22F,a22,F22⟩:=a22;obtain⟨f23,d23F,a23,F23⟩:=a23;obtain⟨f24,d24F,a24,F24⟩:=a24;obtain⟨f25,d25F,cdO,a25,F25,uO,vO⟩:=a25;obtain⟨f26,d26F,cdL,a26,F26,uL,vL⟩:=a26;obtain⟨f27,d27F,cdN,a27,F27,uN,vN⟩:=a27;obtain⟨f28,d28F,a28,F28⟩:=a28;obtain⟨f29,d29F,a29,F29⟩:=a29;obtain⟨f30,d30F,a30,F30⟩:=a30;obtain⟨f31,d31F,a31,F31⟩:=a31;obtain⟨f32,d32F,a32,F32⟩:=a32;obtain⟨f33,d33F,a33,F33⟩:=a33;obtain⟨f34,d34F,a34,F34⟩:=a34;obtain⟨f35,d35F,a35,F35⟩:=a35;obtain⟨f36,d36F,a36,F36⟩:=a36;obtain⟨f37,d37F,a37,F37⟩:=a37;obtain⟨f38,d38F,a38,F38⟩:=a38;obtain⟨f39,d39F,a39,F39⟩:=a39;obtain⟨f40,d40F,a40,F40⟩:=a40;obtain⟨f41,d41F,a41,F41⟩:=a41;obtain⟨f42,d42F,a42,F42⟩:=a42;obtain⟨f43,d43F,a43,F43⟩:=a43;obtain⟨f44,d44F,a44,F44⟩:=a44;obtain⟨f45,d45F,a45,F45⟩:=a45;obtain⟨f46,d46F,a46,F46⟩:=a46;obtain⟨f47,d47F,a47,F47⟩:=a47;obtain⟨f48,d48F,a48,F48⟩:=a48;obtain⟨f49,d49F,a49,F49⟩:=a49;obtain⟨f50,d50F,a50,F50⟩:=a50;obtain⟨f51,d51F,a51,F51⟩:=a51;have e:=hfa.symm.trans (M a51);cases e;obtain⟨oc,od,kV,doc,pm,an,cdv,ct,osl,rfl,lk,hcd⟩:=F51.ex;have T:Txt K mg cFE cC cN cM cP cL cB cD cZ tP tS tC tI:=⟨Z z1,Z z2,Z z3,Z z4,Z z5,Z z6,Z z7,Z z8,Z z9,Z z10,Z z11,Z z12,Z z13,Z z14,Z z15,M y1,M y2,M y3,M y4,M x1,M x4,eC.1,eC.2.1,qu q8 q9 q10 eC.2.2,M x9,eN.1,eN.2.1,qu q8 q9 q10 eN.2.2,M x10,eM.1,eM.2.1,qu q8 q9 q10 eM.2.2,M x6,eP.1,eP.2.1,qu q8 q9 q10 eP.2.2,M x7,eB.1,eB.2.1,qu q8 q9 q10 eB.2.2,M x3,eD.1,eD.2.1,qu q8 q9 q10 eD.2.2,M x8,eZ.1,eZ.2.1,qu q8 q9 q10 eZ.2.2,⟨q1,q2,q3,q4⟩,q5,M x2,q11,q12,q13,q14,q15⟩
 have tw:=fun{c:Addr} {word:Str} {b1 b2 b3 b4 b5 b6 b7 b8 b9:Bool} a b hw (q:Kt K c [cD,cC,d2,cP,cB,cZ,cN,cM,d8,d9,d10,d11,d12,d13,d14,d15,d16,d17,d18,d19,d20,d21,d22] [b1,b2,b3,b4,b5,b6,b7,b8,b9])=>(by obtain⟨r1,r2,r3,r4,r5,r6,r7,r8,r9,r10,r11,r12,r13,r14,r15,r16,r17,r18,r19,r20,r21,r22,r23,_⟩:=q;exact⟨a,b,hw,⟨_,M x3,r1⟩,⟨_,M x4,r2⟩,⟨_,M x5,r3⟩,⟨_,M x6,r4⟩,⟨_,M x7,r5⟩,⟨_,M x8,r6⟩,⟨_,M x9,r7⟩,⟨_,M x10,r8⟩,⟨_,M x11,r9⟩,⟨_,M x12,r10⟩,⟨_,M x13,r11⟩,⟨_,M x14,r12⟩,⟨_,M x15,r13⟩,⟨_,M x16,r14⟩,⟨_,M x17,r15⟩,⟨_,M x18,r16⟩,⟨_,M x19,r17⟩,⟨_,M x20,r18⟩,⟨_,M x21,r19⟩,⟨_,M x22,r20⟩,⟨_,M x23,r21⟩,⟨_,M x24,r22⟩,⟨_,M x25,r23⟩⟩:PQ K mg c word b1 b2 b3 b4 b5 b6 b7 b8 b9)
 have WN:=tw (word:="none") T.kN iN (fun _ _ _ _ _ _ _ _ _=>J) kN;have WB:=tw (word:="picture") T.kB iB (fun _ _ _ _ _ _ _ _ _=>J) kB;have WZ:=tw (word:="size") T.kZ iZ (fun _ _ _ _ _ _ _ _ _=>J) kZ;have nd:∀a∈([(pO,qO),(pL,qL),(pN,qN)]:nQ),∀b∈([(pO,qO),(pL,qL),(pN,qN)]:nQ),a.1=b.1->a=b:=Sg nP;have hO:(pO,qO)∈([(pO,qO),(pL,qL),(pN,qN)]:nQ):= .head _;have hL:(pL,qL)∈([(pO,qO),(pL,qL),(pN,qN)]:nQ):= .tail _ (.head _);have hN:(pN,qN)∈([(pO,qO),(pL,qL),(pN,qN)]:nQ):= .tail _ (.tail _ (.head _))
 have gX:∀base:Heap,lH K mg base->DefX l.prog w K mg base 5 "apart" ["one","other"] [] (uo K cC)/\wB l.prog w K mg base cL 3 "colour_of" ["self","cell"] (oZ K cN cL):=fun base ok=>by have D1:= @bf.def l.prog w K mg base;have D2:= @bf.defX l.prog w K mg base;have D5:= @bf.metD l.prog w K mg base cL;have D6:= @bf.metX l.prog w K mg base cL;have g1:=D1 F1 (mq F1 T) (M a1) (by trivial);have g2:=D1 F2 (j4 F2 g1) (M a2) (by trivial);have g11:=D1 F11 (nu F11 T g2) (M a11) (by trivial);have g12:=D2 F12 (oK F12 T g11) (M a12) (by trivial);have g13:=D2 F13 (Bh F13 T g12) (M a13) (by trivial);have g17:=D5 F17 (ok_Palette.many F17 T) ⟨a17,i17,F17.kp⟩ (by trivial);have g18:=D6 F18 (ok_Palette.colour_of F18 T g2 g17) ⟨a18,i18,F18.kp⟩ (by trivial);exact⟨g13,g18⟩
 have gA:=fun base ok=>(gX base ok).1;have gO:=fun base ok=>(gX base ok).2;refine⟨W.fnOf "law" "law" (iD ie) (bJ ie) (aA ie) .none kV doc pm an cdv ct,fun s v=> .of_eq J,fun base kb nb hB=>?_⟩;have D1:= @bf.def l.prog w K mg base;have D2:= @bf.defX l.prog w K mg base;have D3:= @bf.defA l.prog w K mg base;have D4:= @bf.defM l.prog w K mg base;have D5:= @bf.metD l.prog w K mg base cL;have D6:= @bf.metX l.prog w K mg base cL;have D7:= @bf.makX l.prog w K mg base cL;have g1:=D1 F1 (mq F1 T) (M a1) (by trivial);have g2:=D1 F2 (j4 F2 g1) (M a2) (by trivial);have g3A:=D3 F3 (u5 F3 T g2) (by trivial);have g3:=D1 F3 (u5 F3 T g2) (M a3) (by trivial);have g4:=D1 F4 (CZ F4 T g2) (M a4) (by trivial);have g5:=D1 F5 (wN F5 T g3A) (M a5) (by trivial);have g6:=D1 F6 (uV F6 T g5 g4) (M a6) (by trivial);have g7:=D1 F7 (wC F7 (M a3) g6) (M a7) (by trivial);have g8:=D2 F8 (ud F8 T g7) (M a8) (by trivial);have g9:=D1 F9 (u0 F9 T) (M a9) (by trivial);have g10:=D2 F10 (yO F10 T g8) (M a10) (by trivial);have g11A:=D3 F11 (nu F11 T g2) (by trivial);have g11:=D1 F11 (nu F11 T g2) (M a11) (by trivial);have g12:=D2 F12 (oK F12 T g11) (M a12) (by trivial);have g13:=D2 F13 (Bh F13 T g12) (M a13) (by trivial);have g14:=D1 F14 (rB F14 T g11A) (M a14) (by trivial);have g15:=D7 F15 (ok_Palette.__init__ F15 T g14 (M a11) g2) ⟨q6,a15,i15,q7⟩ (M x2) (by trivial);have g16:=D5 F16 (ok_Palette.colours F16 T) ⟨a16,i16,F16.kp⟩ (by trivial);have g17:=D5 F17 (ok_Palette.many F17 T) ⟨a17,i17,F17.kp⟩ (by trivial);have g18:=D6 F18 (ok_Palette.colour_of F18 T g2 g17) ⟨a18,i18,F18.kp⟩ (by trivial);have g19:=D6 F19 (ok_Palette.cell_of F19 T g12) ⟨a19,i19,F19.kp⟩ (by trivial);have g20:=D6 F20 (ok_Palette.add_colour F20 T g19 g17) ⟨a20,i20,F20.kp⟩ (by trivial);have g21:=D2 F21 (pH F21 T g10) (M a21) (by trivial);have g22:=D2 F22 (wF F22 T g21 g17) (M a22) (by trivial);have g23:=D2 F23 (vV F23 T g10) (M a23) (by trivial);have g24:=D1 F24 (wD F24 T) (M a24) (by trivial);have g25:=D2 F25 (qj F25 uO (W.codeHd_of_K kb vO) hB nd hO T g22 g23 g24 g18 g15) (M a25) (by trivial);have g26:=D1 F26 (wW F26 uL (W.codeHd_of_K kb vL) hB nd hL T g24) (M a26) (by trivial);have g27:=D2 F27 (tW F27 uN (W.codeHd_of_K kb vN) hB nd hN T g24 g18 gA gO) (M a27) (by trivial);have g28:=D1 F28 (nM F28 T) (M a28) (by trivial);have g29:=D2 F29 (uW F29 T g22 g2 g9 g23 g24 g26 g27 g28) (M a29) (by trivial);have g30:=D1 F30 (Aj F30 T) (M a30) (by trivial);have g31:=D1 F31 (yD F31 T) (M a31) (by trivial);have g32:=D4 F32 (LR (nR F32 T WN) (LR (nR F32 T WZ) (nR F32 T WB))) (M a32) (by trivial);have g33:=D1 F33 (wM F33 T) (M a33) (by trivial);have g34:=D1 F34 (yK F34 T) (M a34) (by trivial);have g35:=D1 F35 (Bd F35 T g30 g33) (M a35) (by trivial);have g36:=D1 F36 (Ae F36 T) (M a36) (by trivial);have g37:=D1 F37 (vh F37 T g30 g36) (M a37) (by trivial);have g38:=D1 F38 (wQ F38 T) (M a38) (by trivial);have g39:=D1 F39 (rO F39 T) (M a39) (by trivial);have g40:=D1 F40 (Do F40 T) (M a40) (by trivial);have g41:=D1 F41 (qZ F41 T g38) (M a41) (by trivial);have g42:=D1 F42 (wu F42 T) (M a42) (by trivial);have g43:=D1 F43 (An F43 T g42) (M a43) (by trivial);have g44:=D1 F44 (za F44 T g42) (M a44) (by trivial);have g45:=D1 F45 (tU F45 T g42 g34) (M a45) (by trivial);have g46:=D1 F46 (qg F46 T g23 g31 g42) (M a46) (by trivial);have g47:=D1 F47 (pJ F47 T g44 g25 g16 g39 g31 g40) (M a47) (by trivial);have g48:=D1 F48 (p6 F48 T g25 g15 g16 g20) (M a48) (by trivial);have g49:=D1 F49 (rE F49 T g43 g45 g38 g29 g39 g16 g40) (M a49) (by trivial);have g50:=D1 F50 (vq F50 T g23 g25 g29 g32) (M a50) (by trivial);exact NB F51 T g30 g35 g37 g15 g38 g46 g47 g49 g48 g41 g50 g17 g20 g29
theorem walk{l:W.OpenLaw}{q:Program}{loose:List Str}{XP:(Str->Option Value)->Heap->Prop}{YP:World->Heap->Prop}{d:DefRec}{K:Params->W.Frag}{pO pL pN:Addr}(hn:l.most=some 63)(hdf:d.params.defaults=[])(hY:∀(w:World)(h:Heap),YP w h->(K w.params).In h)(hT:∀(w:World)(h:Heap),YP w h->∀p∈[pO,pL,pN],h.get? p=some (W.tabObj #[]))(hC:∀(w:World),∀p∈[pO,pL,pN],∃c,W.codeHdIn (K w.params) c p=true)(hNT:∀w:World,W.noTabs (K w.params)=true)(F:∀(w:World)(mg:Str->Option Value)(fa:Addr)(h:Heap),(K w.params).In h->h.Ns mainGlobals mg->mg d.name=some (.ref fa)->
   ∃fd:FuncData,(∀(s:Shared)(u:Value),BindsTo s fd ⟨[u],[]⟩ [("_law_script",u)])/\∀base:Heap,(K w.params).In base->base.Ns mainGlobals mg->BMain mg base->bD l.prog w (K w.params) mg base gG 13 fa fd ["_law_script"] (DX [(pO,qO),(pL,qL),(pN,qN)] (K w.params))):
  W.WalkO q loose XP YP l.row.toRowW d [] (fun f vs=>PySem.call f vs):=
 L2.GQ (n:=63) (k:=13) (x:="_law_script") (CX:=gG) (ts:=[pO,pL,pN]) (sp:=DX [(pO,qO),(pL,qL),(pN,qN)]) hn (by decide) hdf ⟨Z,by decide,by decide,Z⟩ hY hT hC hNT F (fun _ H a ns _ hb hO hS=>⟨a,ns,Z,hS,fun m hm=>m7.start (hO m.1 (List.mem_map_of_mem (f:=fun x:Addr×Str=>x.1) hm)),fun _=>Z⟩) fun _ _ _ _ z=>z
end K19
open PySem PySem.W PyProof.Rows
noncomputable def PySem.W.Fast.tw14792507449499000112 : PySem.Program := PySem.Challenge.pw_cellfolio_k19_whole_fewer_walked
theorem PySem.W.Fast.te14792507449499000112 : PySem.Challenge.pw_cellfolio_k19_whole_fewer_walked = PySem.W.Fast.tw14792507449499000112 := rfl
namespace PySem.W.Fast
def tw15376487345625106690:Nat:=0
def tw15819539023117942658:Nat:=0
def tw1831779199705317827:Nat:=0
def tw3346370191842242339:Nat:=0
def tw6123643470116450788:Nat:=0
def tw4968056509253033254:Nat:=0
def tw10686794964134250374:Nat:=0
def tw311434896073165895:Nat:=0
def tw2414400565069934730:Nat:=0
def tw6017131411447640426:Nat:=0
def tw3259787259048800366:Nat:=0
def tw8016964027126530286:Nat:=0
def tw7358963134695046574:Nat:=0
def tw1065020764827095663:Nat:=0
def tw15086914962011922351:Nat:=0
def tw13525053512414009490:Nat:=0
def tw2376862106682912498:Nat:=0
def tw17836824241632662579:Nat:=0
def tw2540048148105960787:Nat:=0
def tw17286325325463125907:Nat:=0
def tw17799372736295743412:Nat:=0
def tw4540895265127090741:Nat:=0
def tw2041552815662405048:Nat:=0
def tw13112665102295312952:Nat:=0
def tw7103385000594678809:Nat:=0
def tw7080499147957942650:Nat:=0
def tw17754423699311994618:Nat:=0
def tw8806458346144624507:Nat:=0
def tw10652993927910595483:Nat:=0
def tw5745427233243035325:Nat:=0
def tw3338411550127512509:Nat:=0
def tw17947823636222935518:Nat:=0
def tw16830185041842463231:Nat:=0
def tw146852389144634079:Nat:=0
def tw13602369302374633105:Nat:=0
def tw2747848418998004552:Nat:=0
def tw1628567331893214432:Nat:=0
def tw2587891179947291373:Nat:=0
def tw11941266389863046573:Nat:=0
def tw3305737393878926393:Nat:=0
def tw17540259243105992566:Nat:=0
def tw3982029352346771435:Nat:=0
def tw9142988517714269768:Nat:=0
def tw6613082022380298990:Nat:=0
def tw5980503745696954801:Nat:=0
def tw15660032864549704308:Nat:=0
def tw5232586700593426510:Nat:=0
def tw1336457334290986267:Nat:=0
def tw2830990415835789066:Nat:=0
def tw18307770453753034851:Nat:=0
def tw2999697750244983675:Nat:=0
def tw7226238565969875276:Nat:=0
def tw7119137836197974513:Nat:=0
def tw8856445266240895251:Nat:=0
def tw7606734716718058870:Nat:=0
def tw6453542246295282836:Nat:=0
def tw7627376991602640980:Nat:=0
def tw6777081158140734205:Nat:=0
def tw8543602393354760446:Nat:=0
def tw12872660467608153530:Nat:=0
def tw8011474600117943975:Nat:=0
def tw10374910881687632936:Nat:=0
def tw11303056892129719301:Nat:=0
def tw16010933469808903098:Nat:=0
def tw6605916923087343707:Nat:=0
def tw1151315811745125388:Nat:=0
def tw13266942880369282121:Nat:=0
def tw9336359501697177695:Nat:=0
def tw12240331541998452060:Nat:=0
def tw14105732974893507608:Nat:=0
def tw14317111575617417789:Nat:=0
def tw13004603311809170855:Nat:=0
def tw12934361549412111325:Nat:=0
def tw17445229716733780555:Nat:=0
end PySem.W.Fast
set_option maxRecDepth 100000 in
set_option maxHeartbeats 0 in
theorem PySem.Challenge.cw_cellfolio_k19_whole_fewer_walked_holds : PySem.Challenge.rw_cellfolio_k19_whole_fewer_walked.Holds := by
  w_on; o_law; k_head; (case hw => w_witness2)
  k_fill
  refine K19.walk (l := PySem.Challenge.rw_cellfolio_k19_whole_fewer_walked) (pO := 487) (pL := 492) (pN := 499) Z Z (fun w h Y => PySem.W.km_in_of Y) (fun w h Y p hp => PySem.W.km_tabs_of Y p (by simp only [List.mem_cons, List.not_mem_nil, or_false] at hp ⊢; rcases hp with h | h | h <;> simp [h])) (fun w p hp => by
    simp only [List.mem_cons, List.not_mem_nil, or_false] at hp
    rcases hp with rfl | rfl | rfl
    · first | exact ⟨489, by kernel_rfl⟩
    · first | exact ⟨496, by kernel_rfl⟩
    · first | exact ⟨501, by kernel_rfl⟩) (fun w => by kernel_rfl) ?F
  case F =>
    intro w mg fa h KX G hmg
    refine' K19.MF (pO := 487) (pL := 492) (pN := 499) KX G hmg ?a1 ?a2 ?a3 ?a4 ?a5 ?a6 ?a7 ?a8 ?a9 ?a10 ?a11 ?a12 ?a13 ?a14 ?a15 ?a16 ?a17 ?a18 ?a19 ?a20 ?a21 ?a22 ?a23 ?a24 ?a25 ?a26 ?a27 ?a28 ?a29 ?a30 ?a31 ?a32 ?a33 ?a34 ?a35 ?a36 ?a37 ?a38 ?a39 ?a40 ?a41 ?a42 ?a43 ?a44 ?a45 ?a46 ?a47 ?a48 ?a49 ?a50 ?a51 ?z1 ?z2 ?z3 ?z4 ?z5 ?z6 ?z7 ?z8 ?z9 ?z10 ?z11 ?z12 ?z13 ?z14 ?z15 ?y1 ?y2 ?y3 ?y4 ?x1 ?x2 ?x3 ?x4 ?x5 ?x6 ?x7 ?x8 ?x9 ?x10 ?x11 ?x12 ?x13 ?x14 ?x15 ?x16 ?x17 ?x18 ?x19 ?x20 ?x21 ?x22 ?x23 ?x24 ?x25 ?q1 ?q2 ?q3 ?q4 ?q5 ?q6 ?q7 ?q8 ?q9 ?q10 ?q11 ?q12 ?q13 ?q14 ?q15 ?eC ?eN ?eM ?eP ?eB ?eD ?eZ ?iN ?kN ?iB ?kB ?iZ ?kZ ?nP
    (case x1|x2|x3|x4|x5|x6|x7|x8|x9|x10|x11|x12|x13|x14|x15|x16|x17|x18|x19|x20|x21|x22|x23|x24|x25 => show _ = _; k_is)
    (case z1|z2|z3|z4|z5|z6|z7|z8|z9|z10|z11|z12|z13|z14|z15|y1|y2|y3|y4 => show _ = _; k_is)
    (case a1|a2|a3|a4|a5|a6|a7|a8|a9|a10|a11|a12|a13|a14|a21|a22|a23|a24|a28|a29|a30|a31|a32|a33|a34|a35|a36|a37|a38|a39|a40|a41|a42|a43|a44|a45|a46|a47|a48|a49|a50|a51 => refine' ⟨_, _, ?a, L2.funD_mk ?u ?v ?w⟩; (case a => k_is); (case u => k_is); (case v => k_is); (case w => k_is))
    (case a15|a16|a17|a18|a19|a20 => refine' ⟨_, _, ?a, ?b, L2.funD_mk ?u ?v ?w⟩; (case a => k_is); (case b => k_is); (case u => k_is); (case v => k_is); (case w => k_is))
    (case a25|a26|a27 => refine' ⟨_, _, _, ?a, L2.funD_mk ?u ?v ?w, ?c, ?d⟩; (case a => k_is); (case u => k_is); (case v => k_is); (case w => k_is); (case c => exact Z); (case d => kernel_rfl))
    (case q1|q2|q3|q4|q5|q6|q7|q8|q9|q10|q11|q12|q13|q14 => k_is)
    (case eC|eN|eM|eP|eB|eD|eZ => refine' ⟨?a, ⟨?b, ?c, ?d, ?e, ?f, ?g⟩, ?h⟩; (case a => k_exc); (case b|c|d|e|f|h => k_is); (case g => show isClsIn _ _ = true; k_is))
    (case q15|iN|iB|iZ => kit_is)
    (case kN|kB|kZ => refine' ⟨?_, ?_, ?_, ?_, ?_, ?_, ?_, ?_, ?_, ?_, ?_, ?_, ?_, ?_, ?_, ?_, ?_, ?_, ?_, ?_, ?_, ?_, ?_, trivial⟩ <;> kit_is)
    (case nP => decide)
#print axioms PySem.Challenge.cw_cellfolio_k19_whole_fewer_walked_holds
