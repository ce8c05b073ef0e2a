import PyProof.Rows.All
import Wide.All
import OpenK.AllK
import Wide.FinOn
import Lean
import PyProof.EqAt
import PyProof.EqKinds
import PyProof.TupleCall
import PyProof.ZipIter
import PyProof.Draws
import PyProof.TupleIter
import PySem.Value
import PyProof.NeKinds
import PyProof.ExcClass2
import PyProof.StationsW
import OpenK.KOwn
import KE.KIsAll
import PyProof.RulesAs
import PyProof.NsDelKeeps
import PyProof.PassesOwn
import PyProof.ExcArgsOwn
import PyProof.IsiH_list
import PyProof.EnumMake
import PyProof.EnumFor
import PyProof.WalksEnum
import PyProof.Rows.EnumRows
import PyProof.SumWalk
import PyProof.StrCalls
import PyProof.Rows.StrJoin2
import PyProof.WalkInts
import KE.KDictOf
import KE.KEqDict
import PyProof.EqLayable
import PyProof.P3Eq
import PyProof.MeetsIn
import KE.KNest
import KE.KNestM
import PyProof.StrCalls6
import PyProof.StrLaws
import PyProof.StrLawsIn
import PyProof.StrLawsChain
import PyProof.MeetsStr2
import PyProof.StrOps2
import PyProof.CallStr
import KE.KIntText
import KE.KRevIter
import PyProof.Rows.StrInSeq3
import PyProof.Rows.SeqMore2
import PySem.Challenge.RW_keeper_k26_near_the_bounds
set_option Elab.async false
set_option linter.all false
set_option maxRecDepth 100000
set_option bootstrap.genMatcherCode false
set_option genSizeOf false
set_option genSizeOfSpec false
section
namespace L2
open PySem PySem.Spec PyProof.Rows
noncomputable def HB(base:Heap)(A:Around):Prop:=A.handled=none\/∃a oe vs,A.handled=some (.ref a)/\base.get? a=some oe/\oe.data= .fields vs/\vs[2]?=some .none
noncomputable def HBp(base:Heap)(pn:List (Addr×Obj))(A:Around):Prop:=A.handled=none\/∃a oe vs,A.handled=some (.ref a)/\(base.get? a=some oe\/(a,oe)∈pn)/\oe.data= .fields vs/\vs[2]?=some .none
theorem HB.toP{base:Heap}{pn:List (Addr×Obj)}{A:Around}(h:HB base A):HBp base pn A:=by
 rcases h with h|⟨a,oe,vs,e1,e2,e3⟩;·exact .inl h
 ·exact .inr ⟨a,oe,vs,e1, .inl e2,e3⟩
theorem AL:entryFor table "proto.unchain"=some Builtin.«proto.unchain»:=entryFor_of_tree (by kernel_rfl)
section
variable{prog:Program}{w:World}{A:Around}{E:Value->Shared->Prop}{s:Shared}{base:Heap}
theorem HB.mono{h h':Heap}(hb:HB h A)(hk:∀a o,A.handled=some (.ref a)->h.get? a=some o->h'.get? a=some o):HB h' A:=by
 rcases hb with hb|⟨a,oe,vs,e1,e2,e3⟩;·exact .inl hb
 ·exact .inr ⟨a,oe,vs,e1,hk a oe e1 e2,e3⟩
theorem B6{n a:Addr}{oe:Obj}{vs:Array Value}{Q:Value->Shared->Prop}(he:s.heap.get? a=some oe)(hd:oe.data= .fields vs)(h2:vs[2]?=some .none)(h:Q .none s):wpAny (model prog w) A (runValue (.builtin "proto.unchain" ⟨[.ref n, .ref a, .ref a, .bool false],[]⟩)) Q E s:=by refine wpAny_runValue (codeAny_builtin AL ?_);show wpAny _ _ (field (.ref a) 2>>=_) _ _ s;refine wpAny_bind (wpAny_field he hd h2 ?_);rw[if_pos (show(Value.none==Value.none)=true by rfl)];exact wpAny_pure h
theorem iO{α:Type}{Q:α->Shared->Prop}(hb:HB s.heap A)(hE:∀h' e,(∀b o,s.heap.get? b=some o->h'.get? b=some o)->(∃o,h'.get? e=some o/\o.cls= .type "StopIteration")->E (.ref e) {s with heap:=h'}):wpAny (model prog w) A (newExc (.type "StopIteration") []>>=λe=>(raiseNew e:Sem α)) Q E s:=by
 refine wpAny_bind ?_;simp only[newExc,newTuple];refine wpAny_bind (wpAny_newObj_type ?_ (by size_fits));refine wpAny_bind (m:=firstArgMember _ _) (wpAny_of_eq (a:=Value.none) (by first|rfl|(simp only[firstArgMember];rfl)) ?_);refine wpAny_newObj_type ?_ (by size_fits);simp only[raiseNew];refine wpAny_bind (wpAny_handled ?_);rcases hb with hb|⟨a,oe,vs,hb,e1,e2,e3⟩;·rw[hb];refine wpAny_bind (wpAny_pure (wpAny_throw (hE _ _ (λb o e=>Heap.get?_push_of_some _ (Heap.get?_push_of_some _ e)) ⟨_,Heap.get?_push_size _ rfl,rfl⟩)))
 ·rw[hb];have ea:=e1;have lt:=Heap.lt_size ea;have ne:a≠(s.heap.push {cls:= .type "tuple",data:= .seq #[]}).objs.size:=by rw[Heap.size_push];exact Nat.ne_of_lt (Nat.lt_succ_of_lt lt)
  dsimp only;rw[if_pos (by simpa using ne)];refine wpAny_bind (wpAny_holding (B6 (Heap.get?_push_of_some _ (Heap.get?_push_of_some _ ea)) e2 e3 ?_));refine wpAny_bind ?_;show wpAny (model prog w) A (setField (.ref _) 2 (.ref a)) _ _ _;refine wpAny_setField (Heap.get?_push_size _ rfl) rfl (by simp;omega) (wpAny_throw (hE _ _ (λb o e=>?_) ⟨_,Heap.get?_update_self _ (Heap.get?_push_size _ rfl) (Obj.isFreed_of_fields (Obj.data_mapFields rfl _)),Obj.cls_mapFields _ _⟩));rw[Heap.get?_update_other _ _ ?_];·exact Heap.get?_push_of_some _ (Heap.get?_push_of_some _ e)
  ·have :=Heap.lt_size e;intro z;rw[<-z,Heap.size_push]at this;exact Nat.not_succ_lt_self this
theorem zX{Q:Bool->Shared->Prop}{h':Heap}{e:Addr}(he:∃o,h'.get? e=some o/\o.cls= .type "StopIteration")(h:Q true {s with heap:=h'}):wpAny (model prog w) A (isInstance (.ref e) (.type "StopIteration")) Q E {s with heap:=h'}:=by obtain⟨o,ho,hc⟩:=he;exact wpAny_isInstance (T:="StopIteration") (b:=true) ⟨o,ho,hc⟩ isSubtype_stop h
theorem HB.upd{it:Addr}{f:Obj->Obj}(hb:HB s.heap A)(na:∀a,A.handled=some (.ref a)->a≠it):HB (s.heap.update it f) A:=hb.mono λa o e1 e2=>(Heap.get?_update_other _ _ (Ne.symm (na a e1))).trans e2
theorem yh{it:Addr}{f:Obj->Obj}{h':Heap}(k:∀b o,(s.heap.update it f).get? b=some o->h'.get? b=some o):Heap.ExtBut it s.heap h':=λb o hb e=>k b o ((Heap.get?_update_other _ _ (Ne.symm hb)).trans e)
theorem ji{it l:Addr}{i:Nat}{items:Array Value}{Q:Option Value->Shared->Prop}(hb:HB s.heap A)(na:∀a,A.handled=some (.ref a)->a≠it)(hit:s.heap.IsListIter it l i)(hl:s.heap.IsList l items)(hx:items[i]?=none)(hQ:∀h',Heap.ExtBut it s.heap h'->Q none {s with heap:=h'}):wpAny (model prog w) A (pyNext (.ref it)) Q E s:=by obtain⟨o,ho,hc,hd⟩:=id hit;obtain⟨ol,hol,_,nl,VP⟩:=hl;unfold pyNext;refine wpAny_bind (wpAny_attempt (wpAny_callSpecial?_slot (name:=Str.ofString "__next__") hit.typeIs slot_listiter_next (wpAny_call_entry slot_listiter_next hit.typeIs entry_listiter_next ?_ (args_listiter_next _))));show wpAny (model prog w) _ (field (.ref it) 0>>=_) _ _ s;refine wpAny_bind (wpAny_field ho hd (x:= .ref l) rfl ?_);show wpAny (model prog w) _ (if(Value.ref l==Value.none)=true then _ else _) _ _ s;rw[if_neg (show¬(Value.ref l==Value.none)=true from Bool.false_ne_true)];show wpAny (model prog w) _ (field (.ref it) 1>>=_) _ _ s;refine wpAny_bind (wpAny_field ho hd (x:= .int i 0) rfl ?_);show wpAny (model prog w) _ (seqItems? (.ref l)>>=_) _ _ s;refine wpAny_bind (wpAny_seqItems hol VP ?_);simp only[Int.toNat_natCast,hx];refine wpAny_bind (wpAny_rule (wpAny_bind (wpAny_setField ho hd (by simp) ?_)));exact iO (A:=A.in1) (hb.upd na) λh' e k he=>wpAny_bind (zX he (wpAny_pure (hQ h' (yh k))))
theorem next_tuple_end{it l:Addr}{i:Nat}{items:Array Value}{Q:Option Value->Shared->Prop}(hb:HB s.heap A)(na:∀a,A.handled=some (.ref a)->a≠it)(hit:s.heap.IsTupleIter it l i)(hl:s.heap.IsTuple l items)(hx:items[i]?=none)(hQ:∀h',Heap.ExtBut it s.heap h'->Q none {s with heap:=h'}):wpAny (model prog w) A (pyNext (.ref it)) Q E s:=by obtain⟨o,ho,hc,hd⟩:=id hit;obtain⟨ol,hol,_,nl,VP⟩:=hl;unfold pyNext;refine wpAny_bind (wpAny_attempt (wpAny_callSpecial?_slot (name:=Str.ofString "__next__") hit.typeIs F.slot_tuple_iterator_next (wpAny_call_entry F.slot_tuple_iterator_next hit.typeIs F.entry_tuple_iterator_next ?_ (F.args_tuple_iterator_next_1 _))));show wpAny (model prog w) _ (field (.ref it) 0>>=_) _ _ s;refine wpAny_bind (wpAny_field ho hd (x:= .ref l) rfl ?_);show wpAny (model prog w) _ (if(Value.ref l==Value.none)=true then _ else _) _ _ s;rw[if_neg (show¬(Value.ref l==Value.none)=true from Bool.false_ne_true)];show wpAny (model prog w) _ (field (.ref it) 1>>=_) _ _ s;refine wpAny_bind (wpAny_field ho hd (x:= .int i 0) rfl ?_);show wpAny (model prog w) _ (seqItems? (.ref l)>>=_) _ _ s;refine wpAny_bind (wpAny_seqItems hol VP ?_);simp only[Int.toNat_natCast,hx];refine wpAny_bind (wpAny_rule (wpAny_bind (wpAny_setField ho hd (by simp) ?_)));exact iO (A:=A.in1) (hb.upd na) λh' e k he=>wpAny_bind (zX he (wpAny_pure (hQ h' (yh k))))
theorem vA{it:Addr}{x left step:Int}{Q:Option Value->Shared->Prop}(hb:HB s.heap A)(hit:IsRangeIter s.heap it x left step)(hleft:left<=0)(hQ:∀h',Heap.ExtBut it s.heap h'->Q none {s with heap:=h'}):wpAny (model prog w) A (pyNext (.ref it)) Q E s:=by have hT:s.TypeIs (.ref it) "range_iterator":=⟨_,hit,rfl⟩;unfold pyNext;refine wpAny_bind (wpAny_attempt (wpAny_callSpecial?_slot (name:=Str.ofString "__next__") hT F.slot_range_iterator_next (wpAny_call_entry F.slot_range_iterator_next hT F.entry_range_iterator_next ?_ (F.args_range_iterator_next_1 _))));show wpAny (model prog w) _ (field (.ref it) 0>>=_) _ _ s;refine wpAny_bind (wpAny_field hit rfl (x:=rawInt x) rfl ?_);show wpAny (model prog w) _ (field (.ref it) 1>>=_) _ _ s;refine wpAny_bind (wpAny_field hit rfl (x:=rawInt left) rfl ?_);show wpAny (model prog w) _ (field (.ref it) 2>>=_) _ _ s;refine wpAny_bind (wpAny_field hit rfl (x:=rawInt step) rfl ?_);show wpAny (model prog w) _ (if left<=0 then _ else _) _ _ s;rw[if_pos hleft];refine wpAny_bind (wpAny_rule ?_);refine wpAny_bind ?_;exact iO (A:=A.in1) hb λh' e k he=>wpAny_bind (zX he (wpAny_pure (hQ h' λb o _ eb=>k b o eb)))
theorem Qi{t:Addr}{items:Array Value}{Q:List Value->Shared->Prop}(hb:HB s.heap A)(ht:s.heap.IsTuple t items)(hQ:∀h',Heap.ExtBut s.heap.objs.size s.heap h'->Q items.toList {s with heap:=h'}):wpAny (model prog w) A (unpackItems (.ref t) items.size none) Q E s:=by
 have m9:t≠s.heap.objs.size:=by obtain⟨o,ho,_⟩:=ht;exact Nat.ne_of_lt (Heap.lt_size ho)
 have lta:∀a,A.handled=some (.ref a)->a≠s.heap.objs.size:=λa ea=>by
  rcases hb with hb|⟨a',oe,vs,e1,e2,_⟩;·rw[hb]at ea;cases ea
  ·rw[e1]at ea;cases ea;exact Nat.ne_of_lt (Heap.lt_size e2)
 unfold unpackItems;refine wpAny_bind ?_;unfold notIterableAtAll;refine wpAny_bind (wpAny_specialOf ht.typeIs F.slot_tuple_iter.lookup (wpAny_pure ?_));simp only[Bool.false_eq_true,if_false];refine wpAny_bind (wpAny_holding (wpAny_pyIter_tuple ht ?_));refine wpAny_bind (wpAny_holding (wpAny_draw_tuple m9 items.size 0 _ _ ⟨_,Heap.get?_push_size _ rfl,rfl,rfl⟩ (ht.push _) (by omega) λh₁ R7 Lb=>?_));rw[show List.take items.size (List.drop 0 items.toList)=items.toList by rw[List.drop_zero];exact List.take_of_length_le (by simp),if_neg (by simp)];have Zr:h₁.IsTuple t items:=(ht.push _).extBut Lb.extBut m9;have ZD:HB h₁ A:=hb.mono λa o ea eo=>Lb.extBut a o (lta a ea) (Heap.get?_push_of_some _ eo);refine wpAny_bind (wpAny_holding (next_tuple_end (s:={s with heap:=h₁}) ZD lta R7 Zr (by simp) λCI XB=>?_));simp only[Option.isSome_none,Bool.false_eq_true,if_false];exact wpAny_pure (hQ CI λb o hb e=>XB b o hb (Lb.extBut b o hb (Heap.get?_push_of_some _ e)))
theorem O8{env:Env}{elts:List Expr}{x1}{pos:Pos}{t:Addr}{items:Array Value}{Q:Unit->Shared->Prop}(hb:HB s.heap A)(ht:s.heap.IsTuple t items)(hn:(assignEach elts env).length=items.size)(aaa:(assignEach elts env).findIdx? (·.1)=none)(h:∀h',Heap.ExtBut s.heap.objs.size s.heap h'->wpAny (model prog w) A (assignInOrder ((assignEach elts env).map (·.2)) items.toList) Q E {s with heap:=h'}):wpAny (model prog w) A (assign (.Tuple elts x1 pos) env (.ref t)) Q E s:=by rw[arm_assign_Tuple];refine wpAny_bind (wpAny_standAt ?_);unfold unpack;rw[hn,aaa];exact wpAny_bind (wpAny_holding (Qi hb ht h))
end
theorem DG{prog:Program}{w:World}{A:Around}{s:Shared}{Q:Option Value->Shared->Prop}{E:Value->Shared->Prop}{I:Addr}{a c:Int}{n i:Nat}(hi:i<n)(st:IsRangeIter s.heap I (a+(i:Nat)*c) ((n:Int)-(i:Nat)) c)(hQ:∀v h' tk,(∃t,v= .int (a+i*c) t)->IsRangeIter h' I (a+((i+1:Nat):Int)*c) ((n:Int)-((i+1:Nat):Int)) c->(∀b o,b∉[I]->s.heap.get? b=some o->h'.get? b=some o)->Q (some v) {s with heap:=h',toks:=tk}):wpAny (model prog w) A (pyNext (.ref I)) Q E s:=by refine wpAny_pyNext_range_item st (by omega) λh' TX WE=>hQ _ h' _ ⟨_,rfl⟩ ?_ λb o hb e=>WE.extBut b o (λh=>hb (by simp[h])) e;rw[show a+((i+1:Nat):Int)*c=a+(i:Int)*c+c by push_cast;rw[Int.add_mul,Int.one_mul,Int.add_assoc],show(n:Int)-((i+1:Nat):Int)=(n:Int)-(i:Int)-1 by push_cast;omega];exact TX
noncomputable def jy(A:Around):List Addr:=match A.handled with|some (.ref a)=>[a]|_=>[]
theorem j5{A:Around}{d:Addr}(h:d∈jy A):A.handled=some (.ref d):=by
 unfold jy at h;split at h;·rename_i a e;rw[List.mem_singleton.mp h];exact e
 ·cases h
theorem HB.frame{A:Around}{h h':Heap}(hb:HB h A)(k:∀b∈jy A,∀o,h.get? b=some o->h'.get? b=some o):HB h' A:=hb.mono λa o ea eo=>k a (by unfold jy;rw[ea];simp) o eo
theorem DE{prog:Program}{w:World}{A:Around}(I ax:Addr)(yQ:ax≠I)(items:Array Value)(na:∀a,A.handled=some (.ref a)->a≠I):Walks prog w A I (I::ax::jy A) [I] items.size (λi v=>items[i]?=some v) (λi h=>h.IsListIter I ax i/\h.IsList ax items/\HB h A)where
 sub:=λb hb=>by simp at hb;simp[hb]
 frame:=λ_ _ _ st hk=>⟨st.1.at λo e=>hk I (by simp) o e,st.2.1.at λo e=>hk ax (by simp) o e,st.2.2.frame λb hb=>hk b (by simp[hb])⟩;item:=λi s Q E hi st hQ=>by refine wpAny_pyNext_list_item st.1 st.2.1 (x:=items[i]) (by simp[hi]) λh' TX WE=>?_;exact hQ _ h' s.toks (by simp[hi]) ⟨TX,st.2.1.extBut WE.extBut yQ,st.2.2.mono λa o ea eo=>WE.extBut a o (na a ea) eo⟩ λb o hb e=>WE.extBut b o (λh=>hb (by simp[h])) e
 done:=λs Q E st hQ=>ji st.2.2 na st.1 st.2.1 (by simp) λh' he'=>hQ h' s.toks λb o hb e=>he' b o (λh=>hb (by simp[h])) e;self:=λ_ _ _ _ st hQ=>wpAny_pyIter_listiter st.1 hQ
end L2
end
section
namespace L2
open PySem PySem.Spec PyProof.Rows
noncomputable abbrev Key:=Sum Int Str
noncomputable def xB:Key->Value->Bool| .inl k,v=>Value.isInt k v| .inr x,v=>Value.isStrOf x v
noncomputable def aaC(w:World):Key->Int| .inl k=>hashInt k| .inr x=>hashStr w x
theorem cb:∀{k:Key}{v:Value},xB k v=true->(∃i t,k=Sum.inl i/\v=Value.int i t)\/(∃x t,k=Sum.inr x/\v=Value.str x t)| .inl i,v,h=>by obtain⟨t,e⟩:=Value.isInt_shape (k:=i) (v:=v) h;exact .inl ⟨i,t,rfl,e⟩| .inr x,v,h=>by obtain⟨t,e⟩:=Value.isStrOf_shape (x:=x) (v:=v) h;exact .inr ⟨x,t,rfl,e⟩
theorem JH(i:Int)(t:Tok):xB (.inl i) (.int i t)=true:=by simp[xB,Value.isInt]
theorem IZ(x:Str)(t:Tok):xB (.inr x) (.str x t)=true:=by simp[xB,Value.isStrOf]
theorem UT(a b:Int):decide ((Sum.inl a:Key)=Sum.inl b)=(a==b):=by
 by_cases e:a=b;·subst e;simp
 ·have h:¬(Sum.inl a:Key)=Sum.inl b:=λq=>e (Sum.inl.inj q);rw[decide_eq_false h];exact(beq_eq_false_iff_ne.mpr e).symm
theorem SE(a b:Str):decide ((Sum.inr a:Key)=Sum.inr b)=decide (a=b):=by
 by_cases e:a=b;·subst e;simp
 ·have h:¬(Sum.inr a:Key)=Sum.inr b:=λq=>e (Sum.inr.inj q);rw[decide_eq_false h,decide_eq_false e]
theorem U8(a:Int)(b:Str):decide ((Sum.inl a:Key)=Sum.inr b)=false:=decide_eq_false (λq=>nomatch q)
theorem U4(a:Str)(b:Int):decide ((Sum.inr a:Key)=Sum.inl b)=false:=decide_eq_false (λq=>nomatch q)
noncomputable def cZ(prog:Program)(w:World):PySem.KeyKind prog w Key where
 is:=xB;hash:=aaC w;inj:=λv a b ha hb=>by
  rcases cb ha with⟨i,t,rfl,rfl⟩|⟨x,t,rfl,rfl⟩
  ·rcases cb hb with⟨j,u,rfl,e⟩|⟨y,u,rfl,e⟩;·injection e with e1 _;rw[e1]
   ·exact nomatch e
  ·rcases cb hb with⟨j,u,rfl,e⟩|⟨y,u,rfl,e⟩;·exact nomatch e
   ·injection e with e1 _;rw[e1]
 byValue:=λk v h=>by rcases cb h with⟨i,t,rfl,rfl⟩|⟨x,t,rfl,rfl⟩<;>rfl
 pyHash:=λhv h=>by
  rcases cb hv with⟨i,t,rfl,rfl⟩|⟨x,t,rfl,rfl⟩;·exact wpAny_pyHash_int h
  ·exact wpAny_pyHash_str h
 eqBool:=λhu hv h=>by
  rcases cb hu with⟨i,t,rfl,rfl⟩|⟨x,t,rfl,rfl⟩
  ·rcases cb hv with⟨j,u,rfl,rfl⟩|⟨y,u,rfl,rfl⟩;·rw[UT]at h;exact wpAny_eqBool_int h
   ·rw[U8]at h;exact SeqAt.EqAt.int_str i t y u _ _ _ _ h
  ·rcases cb hv with⟨j,u,rfl,rfl⟩|⟨y,u,rfl,rfl⟩;·rw[U4]at h;exact SeqAt.EqAt.str_int x t j u _ _ _ _ h
   ·rw[SE]at h;exact wpAny_eqBool_str h
 «strs»:=λk x t v h=>by
  rcases cb h with⟨i,u,rfl,e⟩|⟨y,u,rfl,e⟩;·exact nomatch e
  ·injection e with e1 _;subst e1;cases v<;>rfl
theorem Ba(prog:Program)(w:World)(i:Int)(t:Tok):(cZ prog w).is (.inl i) (.int i t)=true:=JH i t
theorem AF(prog:Program)(w:World)(x:Str)(t:Tok):(cZ prog w).is (.inr x) (.str x t)=true:=IZ x t
end L2
namespace L2
open PySem PySem.Spec PyProof.Rows
inductive V where|ba|bl(b:Bool)|int(i:Int)|str(x:Str)|J6(b:Array UInt8)|Uo(b:UInt64)|ref(a:Addr)|ty(n:String)deriving DecidableEq
noncomputable def RelV:V->Value->Prop| .ba,u=>u=Value.none| .bl b,u=>u=Value.bool b| .int i,u=>∃t,u=Value.int i t| .str x,u=>∃t,u=Value.str x t| .J6 b,u=>∃t,u=Value.bytes b t| .Uo b,u=>∃t,u=Value.float b t| .ref a,u=>u=Value.ref a| .ty n,u=>u=Value.type n
noncomputable abbrev Vals:List V->List Value->Prop:=Paired RelV
theorem Vals.length{xs:List V}{us:List Value}(r:Vals xs us):xs.length=us.length:=Paired.length r
theorem Vals.get:∀{xs:List V}{us:List Value}{i:Nat}{x:V},Vals xs us->xs[i]?=some x->∃u,us[i]?=some u/\RelV x u|_,_,_,_, .nil,e=>by simp at e|_,_,0,_, .cons r _,e=>by simp at e;subst e;exact⟨_,rfl,r⟩|_,_,i+1,x, .cons _ t,e=>by obtain⟨u,h1,h2⟩:=Vals.get (i:=i) (x:=x) t (by simpa using e);exact⟨u,by simpa using h1,h2⟩
theorem Vals.set{x:V}{u:Value}(r:RelV x u):∀{xs:List V}{us:List Value}(i:Nat),Vals xs us->Vals (xs.set i x) (us.set i u)|_,_,_, .nil=> .nil|_,_,0, .cons _ t=> .cons r t|_,_,i+1, .cons q t=> .cons q (Vals.set r i t)
theorem Vals.append:∀{xs ys:List V}{us ws:List Value},Vals xs us->Vals ys ws->Vals (xs++ys) (us++ws)|_,_,_,_, .nil,s=>s|_,_,_,_, .cons r t,s=> .cons r (Vals.append t s)
theorem Vals.take:∀{xs:List V}{us:List Value}(n:Nat),Vals xs us->Vals (xs.take n) (us.take n)|_,_,0,_=> .nil|_,_,_+1, .nil=> .nil|_,_,n+1, .cons r t=> .cons r (Vals.take n t)
theorem Vals.drop:∀{xs:List V}{us:List Value}(n:Nat),Vals xs us->Vals (xs.drop n) (us.drop n)|_,_,0,r=>r|_,_,_+1, .nil=> .nil|_,_,n+1, .cons _ t=>Vals.drop n t
noncomputable def wt:Option V->Option Value->Prop|some v,some u=>RelV v u|none,none=>True|_,_=>False
noncomputable def KV{κ:Type}:List (κ×V)->List (κ×Value)->Prop:=Paired λ(p:κ×V)(q:κ×Value)=>p.1=q.1/\RelV p.2 q.2
noncomputable def kV:Key->V| .inl i=> .int i| .inr x=> .str x
inductive ON where|tab(q:Str)(ln cl:Value)|code(q:Str)
inductive HO where/--a list -/|lst(xs:List V)/--a tuple (never changes) -/|tup(xs:List V)/--a dict whose keys are ints and texts; one whose keys are tuples of ints and texts (the empty one is both) -/|dK(aC:List (Key×V))|dT(aC:List (List Key×V))/--a set of ints: its members, its size -/|set(S:Int->Bool)(n:Nat)/--an instance of the class at C, its dict at dx, its attributes -/|ins(C dx:Addr)(fs:List (Str×V))/--the dict of the instance at x -/|own(x:Addr)/--the dict of an exception -/|xd(fs:List (Str×V))/--a bound method, f of x -/|met(f x:Addr)/--a range object lo, lo + 1, .. below hi -/|rng(lo hi:Int)/--a thing that is known to the object (the script; a dict while a loop walks it): read, never written while it is so -/|CA(o:Obj)(u:HO)/--a code object's table -/|wx(ps:ON)/--any other thing, by what is true of its one object (a def of one's own: SetO a S n := HO.ext fun h => ..) -/|ext(φ:Heap->Prop)
noncomputable abbrev Hp:=Addr->Option HO
noncomputable def upd(H:Hp)(a:Addr)(o:HO):Hp:=λb=>if b=a then some o else H b
theorem av{H:Hp}{a:Addr}{o:HO}:upd H a o a=some o:=by unfold upd;rw[if_pos rfl]
theorem aX{H:Hp}{a b:Addr}{o:HO}(h:b≠a):upd H a o b=H b:=by unfold upd;rw[if_neg h]
theorem Qr{H:Hp}{a b:Addr}{o u:HO}(h:H a=some o)(h':H b=some u)(d:o≠u):a≠b:=by intro e;subst e;rw[h]at h';exact d (Option.some.inj h')
theorem aQ{H:Hp}{a b:Addr}{o:HO}(h:H a=some o)(h':H b=none):a≠b:=by intro e;subst e;rw[h]at h';cases h'
section
variable(P:Program)(w:World)
noncomputable def bV(H:Hp)(h:Heap)(a:Addr):HO->Prop| .lst xs=>xs.length<=sizeLine/\∃(aI:List Value)(n:Nat),Vals xs aI/\h.get? a=some {cls:= .type "list",data:= .seq aI.toArray n}| .tup xs=>xs.length<=sizeLine/\∃aI:List Value,Vals xs aI/\IsTup h a aI.toArray| .dK aC=>aC.length<=sizeLine/\(a==sysModules)=false/\∃vs,KV aC vs/\h.DictOf (cZ P w) a vs| .dT aC=>aC.length<=sizeLine/\(a==sysModules)=false/\∃xs:List (List Key×Addr×Value),Paired (λ(p:List Key×V)(q:List Key×Addr×Value)=>p.1=q.1/\H q.2.1=some (.tup (p.1.map kV))/\RelV p.2 q.2.2) aC xs/\∃o es ep,h.get? a=some o/\o.ExactDict/\o.data= .dict es ep/\es.toList=xs.map (entryOfKey (tupleKind (cZ P w)))/\(xs.map (·.1)).Nodup| .set S n=>h.SetOf (intKind P w) a S n| .ins C dx fs=>H dx=some (.own a)/\fs.length<=1000/\dx≠a/\h.get? a=some (PySem.W.instObj C dx)/\∃mA,h.Ns1 dx mA/\(∀f,wt (fs.lookup f) (mA f))/\PySem.Within mA (fs.map (·.1))| .own _=>∃o,h.get? a=some o| .xd fs=>∃mA,h.Ns1 a mA/\∀f,wt (fs.lookup f) (mA f)| .rng lo hi=>∃t u v,h.get? a=some {cls:= .type "range",data:= .fields #[.int lo t, .int hi u, .int 1 v]}| .CA o u=>h.get? a=some o/\bV H h a u| .wx (.tab q ln cl)=>h.get? a=some {cls:= .none,data:= .fields #[]}\/∃c,h.get? a=some {cls:= .none,data:= .fields #[ln,cl, .ref c]}/\H c=some (.wx (.code q))| .wx (.code q)=>h.CodeRec (.ref a) q| .met f x=>h.get? a=some (PySem.W.methodObj (.ref f) (.ref x))| .ext φ=>φ h/\(∃o,h.get? a=some o)/\∀h1 h2:Heap,φ h1->(∀o,h1.get? a=some o->h2.get? a=some o)->φ h2
noncomputable def hG(H:Hp)(h:Heap):Prop:=∀a o,H a=some o->bV P w H h a o
end
section
variable{P:Program}{w:World}{H H':Hp}{h h':Heap}{a:Addr}{o:HO}
theorem bV.lt(x:bV P w H h a o):a<h.objs.size:=by
 cases o with
  |lst xs=>obtain⟨_,_,_,_,e⟩:=x;exact Heap.lt_size e
  |tup xs=>obtain⟨_,_,_,p⟩:=x;exact p.lt
  |dK aC=>obtain⟨_,_,_,_,o,_,_,e,_⟩:=x;exact Heap.lt_size e
  |dT aC=>obtain⟨_,_,_,_,o,_,_,e,_⟩:=x;exact Heap.lt_size e
  |set S n=>obtain⟨o,_,_,_,e,_⟩:=x;exact Heap.lt_size e
  |ins C dx fs=>obtain⟨_,_,_,e,_⟩:=x;exact Heap.lt_size e
  |own y=>obtain⟨_,e⟩:=x;exact Heap.lt_size e
  |xd fs=>obtain⟨_,⟨_,_,_,e,_⟩,_⟩:=x;exact Heap.lt_size e
  |rng lo hi=>obtain⟨_,_,_,e⟩:=x;exact Heap.lt_size e
  |CA ob u=>obtain⟨e,_⟩:=x;exact Heap.lt_size e
  |wx ps=>cases ps with|tab q ln cl=>rcases x with e|⟨c,e,_⟩<;>exact Heap.lt_size e|code q=>obtain⟨c,o,vs,t,e1,e2,_⟩:=x;cases e1;exact Heap.lt_size e2
  |met f y=>exact Heap.lt_size (show h.get? a=some _ from x)
  |ext φ=>obtain⟨_,⟨_,e⟩,_⟩:=x;exact Heap.lt_size e
theorem Paired.Uc{α β:Type}{F G:α->β->Prop}:∀{XY:List α}{YQ:List β},Paired F XY YQ->(∀a b,F a b->G a b)->Paired G XY YQ|_,_, .nil,_=> .nil|_,_, .cons r t,f=> .cons (f _ _ r) (Paired.Uc t f)
noncomputable def Fix:HO->Prop| .tup _=>True| .wx _=>True|_=>False
noncomputable abbrev ZS:={u:HO//Fix u}
theorem bV.j3(x:bV P w H h a o)(k:∀b u,(b=a\/H b=some (.own a))->h.get? b=some u->h'.get? b=some u)(ho:∀b,H b=some (.own a)->H' b=some (.own a))(ht:∀(b:Addr)(u:ZS),H b=some u.1->H' b=some u.1):bV P w H' h' a o:=by
 induction o with
  |lst xs=>obtain⟨z,aI,n,r,e⟩:=x;exact⟨z,aI,n,r,k _ _ (.inl rfl) e⟩
  |tup xs=>obtain⟨z,aI,r,ob,e,c⟩:=x;exact⟨z,aI,r,ob,k _ _ (.inl rfl) e,c⟩
  |dK aC=>obtain⟨z,y,vs,r,ob,es,ep,e,c⟩:=x;exact⟨z,y,vs,r,ob,es,ep,k _ _ (.inl rfl) e,c⟩
  |dT aC=>obtain⟨z,y,xs,r,ob,es,ep,e,c⟩:=x;exact⟨z,y,xs,Paired.Uc r λp q z=>⟨z.1,ht _ ⟨.tup _,trivial⟩ z.2.1,z.2.2⟩,ob,es,ep,k _ _ (.inl rfl) e,c⟩
  |set S n=>obtain⟨ob,es,ep,t,e,c⟩:=x;exact⟨ob,es,ep,t,k _ _ (.inl rfl) e,c⟩
  |ins C dx fs=>obtain⟨d,z,ne,e,mA,⟨od,es,ep,e2,c⟩,r⟩:=x;exact⟨ho _ d,z,ne,k _ _ (.inl rfl) e,mA,⟨od,es,ep,k _ _ (.inr d) e2,c⟩,r⟩
  |own y=>obtain⟨ob,e⟩:=x;exact⟨ob,k _ _ (.inl rfl) e⟩
  |xd fs=>obtain⟨mA,⟨od,es,ep,e,c⟩,r⟩:=x;exact⟨mA,⟨od,es,ep,k _ _ (.inl rfl) e,c⟩,r⟩
  |rng lo hi=>obtain⟨t,u,v,e⟩:=x;exact⟨t,u,v,k _ _ (.inl rfl) e⟩
  |CA ob u ih=>obtain⟨e,q⟩:=x;exact⟨k _ _ (.inl rfl) e,ih q⟩
  |wx ps=>
   cases ps with
    |tab q ln cl=>
     rcases x with e|⟨c,e,r⟩;·exact .inl (k a _ (.inl rfl) e)
     ·exact .inr ⟨c,k a _ (.inl rfl) e,ht c ⟨.wx (.code q),trivial⟩ r⟩
    |code q=>obtain⟨c,o,vs,t,e1,e2,e3⟩:=x;cases e1;exact⟨_,o,vs,t,rfl,k a _ (.inl rfl) e2,e3⟩
  |met f y=>have e:h.get? a=some (PySem.W.methodObj (.ref f) (.ref y)):=x;show h'.get? a=some (PySem.W.methodObj (.ref f) (.ref y));exact k a _ (.inl rfl) e
  |ext φ=>obtain⟨p,⟨o,e⟩,st⟩:=x;exact⟨st _ _ p λo q=>k _ _ (.inl rfl) q,⟨o,k _ _ (.inl rfl) e⟩,st⟩
theorem hG.lt(x:hG P w H h)(e:H a=some o):a<h.objs.size:=(x a o e).lt
theorem hG.fresh(x:hG P w H h)(e:h.objs.size<=a):H a=none:=by cases q:H a with|none=>rfl|some u=>exact absurd (Nat.lt_of_lt_of_le (x.lt q) e) (Nat.lt_irrefl _)
theorem hG.kept(x:hG P w H h)(k:∀b u,h.get? b=some u->h'.get? b=some u):hG P w H h':=λa o e=>(x a o e).j3 (λb u _ q=>k b u q) (λ_ q=>q) λ_ _ q=>q
theorem hG.laid(x:hG P w H h)(k:∀b u,h.get? b=some u->h'.get? b=some u)(hp:h.objs.size<=a)(new:bV P w (upd H a o) h' a o):hG P w (upd H a o) h':=λb u e=>by
 have hn:=x.fresh hp;by_cases hb:b=a;·subst hb;rw[av]at e;cases e;exact new
 ·rw[aX hb]at e;exact(x b u e).j3 (λc v _ q=>k c v q) (λc q=>by rw[aX (aQ q hn)];exact q) λc xs q=>by rw[aX (aQ q hn)];exact q
end
noncomputable def Rd(H:Hp)(a:Addr)(u:HO):Prop:=H a=some u\/∃o,H a=some (.CA o u)
theorem Rd.ok{P:Program}{w:World}{H:Hp}{h:Heap}{a:Addr}{u:HO}(r:Rd H a u)(x:hG P w H h):bV P w H h a u:=by
 rcases r with r|⟨o,r⟩;·exact x a u r
 ·obtain⟨_,q⟩:=x a _ r;exact q
noncomputable def YA:Option HO->Prop|some (.lst _)=>True|some (.dK _)=>True|some (.dT _)=>True|some (.set _ _)=>True|some (.ins _ _ _)=>True|some (.ext _)=>True|_=>False
section
variable{P:Program}{w:World}{H:Hp}{h h':Heap}{x e:Addr}{o':HO}
theorem hG.write(ok:hG P w H h)(mu:YA (H x))(he:e=x\/H e=some (.own x))(k:∀b u,b≠e->h.get? b=some u->h'.get? b=some u)(VX:∃u,h'.get? e=some u)(new:bV P w (upd H x o') h' x o'):hG P w (upd H x o') h':=λb u q=>by
 have Zq:∀c y,H c=some (.own y)->c≠x:=λc y r z=>by subst z;rw[r]at mu;exact mu
 have abM:∀(c:Addr)(u:ZS),H c=some u.1->c≠x:=λc⟨u,f⟩r z=>by subst z;rw[show H c=some u from r]at mu;cases u<;>first|exact mu|exact f
 by_cases hb:b=x;·subst hb;rw[av]at q;cases q;exact new
 ·rw[aX hb]at q;by_cases H_:b=e
  ·have q':H b=some (.own x):=by
    rcases he with z|z;·exact absurd (H_.trans z) hb
    ·rw[H_];exact z
   rw[q]at q';cases q';obtain⟨v,hv⟩:=VX;exact⟨v,by rw[H_];exact hv⟩
  ·refine(ok b u q).j3 (λc v hc r=>k c v ?_ r) (λc r=>by rw[aX (Zq c b r)];exact r) λc xs r=>by rw[aX (abM c xs r)];exact r
   rcases hc with rfl|hc;·exact H_
   ·rintro rfl;rcases he with z|z;·exact Zq c b hc z
    ·rw[hc]at z;cases z;exact hb rfl
end
structure Un(fs ex:List Addr)(H H':Hp)(h h':Heap):Prop where
 keep:∀b o,h.get? b=some o->H b=none->b∉fs->b∉ex->h'.get? b=some o
 slot:∀b o,h.get? b=some o->H b=none->b∈fs->b∉ex->∃sl,h'.get? b=some {o with slots:=sl}
 free:∀b o,h.get? b=some o->H b=none->b∉ex->H' b=none
 there:∀b o,h.get? b=some o->b∉ex->∃o',h'.get? b=some o'
 uW:∀b xs,H b=some (.tup xs)->H' b=some (.tup xs)
 nA:∀b o u,H b=some (.CA o u)->H' b=some (.CA o u)
 m_:∀b ps,H b=some (.wx ps)->H' b=some (.wx ps)
section
variable{fs fs' ex ex':List Addr}{H H1 H2:Hp}{h h1 h2 h':Heap}{a x e:Addr}{o:HO}
theorem Un.any(u:Un fs ex H H1 h h1){b:Addr}{ob:Obj}(q:h.get? b=some ob)(n:H b=none)(hx:b∉ex):∃sl,h1.get? b=some {ob with slots:=sl}:=by
 by_cases hb:b∈fs;·exact u.slot b ob q n hb hx
 ·exact⟨ob.slots,u.keep b ob q n hb hx⟩
theorem Un.kept(k:∀b u,h.get? b=some u->h'.get? b=some u):Un fs ex H H h h':=⟨λb ob q _ _ _=>k b ob q,λb ob q _ _ _=>⟨ob.slots,k b ob q⟩,λ_ _ _ n _=>n,λb ob q _=>⟨ob,k b ob q⟩,λ_ _ q=>q,λ_ _ _ q=>q,λ_ ps q=>(by rw[q])⟩
theorem Un.refl:Un fs ex H H h h:=Un.kept λ_ _ q=>q
theorem Un.laid(k:∀b u,h.get? b=some u->h'.get? b=some u)(hp:h.objs.size<=a)(hn:H a=none):Un fs ex H (upd H a o) h h' where
 keep:=λb u q _ _ _=>k b u q;slot:=λb u q _ _ _=>⟨u.slots,k b u q⟩;free:=λb u q n _=>by rw[aX (Nat.ne_of_lt (Nat.lt_of_lt_of_le (Heap.lt_size q) hp))];exact n
 there:=λb u q _=>⟨u,k b u q⟩;uW:=λb xs q=>by rw[aX (aQ q hn)];exact q
 nA:=λb u xs q=>by rw[aX (aQ q hn)];exact q
 m_:=λb ps q=>(by rw[aX (aQ q hn),q])
theorem Un.write(mu:YA (H x))(he:e=x\/H e=some (.own x))(k:∀b u,b≠e->h.get? b=some u->h'.get? b=some u)(VX:∃u,h'.get? e=some u):Un fs ex H (upd H x o) h h':=by
 have hx:∀b,H b=none->b≠x:=λb n z=>by subst z;rw[n]at mu;exact mu
 have hb:∀b,H b=none->b≠e:=λb n z=>by
  subst z;rcases he with r|r;·exact hx b n r
  ·rw[n]at r;cases r
 have hm:∀b u,H b=some u->¬YA (some u)->b≠x:=λb u q nm z=>by subst z;rw[q]at mu;exact nm mu
 refine⟨λb u q n _ _=>k b u (hb b n) q,λb u q n _ _=>⟨u.slots,k b u (hb b n) q⟩,λb u q n _=>by rw[aX (hx b n)];exact n,λb u q _=>?_,λb xs q=>by rw[aX (hm b _ q λz=>z)];exact q,λb u xs q=>by rw[aX (hm b _ q λz=>z)];exact q,λb ps q=>(by rw[aX (hm b _ q λz=>z),q])⟩;by_cases H_:b=e;·subst H_;exact VX
 ·exact⟨u,k b u H_ q⟩
end
noncomputable def trk(h:Heap)(H:Hp):List Addr:=(List.range h.objs.size).filter λa=>(H a).isSome
noncomputable def Ar(h:Heap)(H:Hp):Heap:=PySem.W.hideAll h (trk h H)
theorem xV(h:Heap)(H:Hp):(Ar h H).objs.size=h.objs.size:=PySem.W.hideAll_size _ _
theorem kE{h:Heap}{H:Hp}{b:Addr}{o:Obj}(e:h.get? b=some o)(n:H b=none):(Ar h H).get? b=some o:=PySem.W.hideAll_get _ e λhm=>by have q:(H b).isSome=true:=(List.mem_filter.mp hm).2;rw[n]at q;simp at q
theorem Em{h:Heap}{H:Hp}{b:Addr}{o:Obj}(e:(Ar h H).get? b=some o):h.get? b=some o/\H b=none:=by have e':h.get? b=some o:=PySem.W.of_hideAll (trk h H) e;refine⟨e',?_⟩;cases q:H b with|none=>rfl|some x=>have hm:b∈trk h H:=List.mem_filter.mpr ⟨List.mem_range.mpr (Heap.lt_size e'),by simp[q]⟩;have z:(Ar h H).get? b=none:=PySem.W.hideAll_none (trk h H) hm;rw[z]at e;cases e
noncomputable def Pk(g h:Heap)(L:Addr):List (Addr×Obj):=(List.range h.objs.size).filterMap λa=>if a=L\/(g.get? a).isSome=true then none else(h.get? a).map λo=>(a,o)
noncomputable def rest(g h:Heap)(L d:Addr):List (Addr×Obj):=(Pk g h L).filter λp=>decide (p.1≠d)
end L2
namespace L2
open PySem PySem.Spec PyProof.Rows
noncomputable def X_(mg:Str->Option Value)(h:Heap):Prop:=∃bm ob,mg "__builtins__"=some (.ref bm)/\bm≠builtinsNs/\h.get? bm=some ob/\ob.cls= .type "module"/\ob.dict=some builtinsNs/\ob.data= .plain
theorem X_.keeps{mg:Str->Option Value}{h h':Heap}(x:X_ mg h)(k:∀b o,h.get? b=some o->h'.get? b=some o):X_ mg h':=let⟨bm,ob,a,b,c,d⟩:=x;⟨bm,ob,a,b,k _ _ c,d⟩
structure Mod(K:PySem.W.Frag)(mg:Str->Option Value)(base:Heap):Prop where
 ID:K.In base
 glob:base.Ns mainGlobals mg
 blt:∃mb,base.Ns builtinsNs mb/\∀x:Str,x≠"__name__"->mb x=bootBuiltins x
 nolimit:base.NoLimit
 bm:X_ mg base
structure Cx where
 prog:Program
 w:World
 K:PySem.W.Frag
 mg:Str->Option Value
 base:Heap
 A:Around
 N:List Str
 bO:Shared
 H₀:Hp
 env:Env
 outer:List Env
 stack:List Env
 ex:List Addr
 fn:Str->Bool
 calm:Bool
 pn:List (Addr×Obj)
 xe:Value->Shared->Prop
noncomputable def hI(l:List Env):List Addr:=l.filterMap (·.frame)
noncomputable abbrev Cx.fs(X:Cx):List Addr:=hI X.outer
noncomputable def VS(sc:Scope)(x:Str):Prop:=sc.names.lookup x=some .local\/sc.names.lookup x=some .cell\/sc.names.lookup x=some .free
noncomputable def Loc(sc:Scope)(x:Str):Prop:=sc.names.lookup x=some .local\/sc.names.lookup x=some .cell
noncomputable def Look(env:Env)(h:Heap)(m:Str->Option Value)(x:Str)(u:Value):Prop:=(env.kindOf x=some .local/\m x=some u)\/((env.kindOf x=some .cell\/env.kindOf x=some .free)/\∃c,env.cells.lookup x=some c/\h.IsCell c (some u))
structure Cx.Ok(X:Cx):Prop where
 mod:Mod X.K X.mg X.base
 kind:X.env.scope.kind= .function
 glob:X.env.globals=mainGlobals
 blt:X.env.builtins=builtinsNs
 above:X.bO.heap.objs.size<=X.env.locals
 inj:∀x y c,X.env.cells.lookup x=some c->X.env.cells.lookup y=some c->x=y
 has:∀x,(X.env.kindOf x=some .cell\/X.env.kindOf x=some .free)->∃c,X.env.cells.lookup x=some c
 Po:∀x c,X.fn x=true->X.env.cells.lookup x=some c->X.bO.heap.objs.size<=c
 hd:X.calm=true->HBp X.base X.pn X.A
 frames:X.A.frames=some X.stack
 Td:X.stack=X.outer\/(X.stack=X.env::X.outer/\X.env.frame=some X.env.locals)
 Sd:∀b∈X.ex,b≠X.env.locals/\∀x c,X.env.cells.lookup x=some c->c≠b
 bs:∀b o,X.base.get? b=some o->X.bO.heap.get? b=some o/\X.H₀ b=none
 Cz:X.base.objs.size<=X.bO.heap.objs.size
 xf:∀b o,X.base.get? b=some o->b∉X.ex
 Ah:∀b∈X.ex,b∉X.fs
 gL:X.bO.heap.FunFrames X.base X.outer
 Oe:∀b∈X.fs,X.H₀ b=none
structure Inv(X:Cx)(pins:List (Addr×Obj))(σ:List (Option V))(H:Hp)(s:Shared):Prop where
 ok:X.Ok
 os:s.os=X.bO.os
 bare:AllBare s.gens
 base:Un X.fs X.ex X.H₀ H X.bO.heap s.heap
 loc:∃m,s.heap.Ns X.env.locals m/\∀(i:Nat)(x:Str)(v:V),X.N[i]?=some x->σ[i]?=some (some v)->VS X.env.scope x->∃u,RelV v u/\Look X.env s.heap m x u
 cell:∀x c,X.env.cells.lookup x=some c->∃v,s.heap.IsCell c v
 free:H X.env.locals=none
 dW:∀x c,X.env.cells.lookup x=some c->H c=none
 pin:∀p∈X.pn++pins,s.heap.get? p.1=some p.2/\H p.1=none/\p.1≠X.env.locals/\p.1∉X.fs/\∀v,p.2.data≠ .cell v
 bJ:hG X.prog X.w H s.heap
 len:σ.length=X.N.length
section
variable{X:Cx}{pins:List (Addr×Obj)}{σ:List (Option V)}{H H':Hp}{s:Shared}{h':Heap}
theorem Cx.Ok.Uk(ok:X.Ok){b:Addr}{o:Obj}(e:X.base.get? b=some o):b∉X.fs:=λhb=>by have :=(ok.gL.mem hb).1;rw[e]at this;cases this
theorem Inv.bs(I:Inv X pins σ H s):∀b o,X.base.get? b=some o->s.heap.get? b=some o/\H b=none:=λb o e=>⟨I.base.keep b o (I.ok.bs b o e).1 (I.ok.bs b o e).2 (I.ok.Uk e) (I.ok.xf b o e),I.base.free b o (I.ok.bs b o e).1 (I.ok.bs b o e).2 (I.ok.xf b o e)⟩
theorem Inv.bk(I:Inv X pins σ H s):∀b o,X.base.get? b=some o->s.heap.get? b=some o:=λb o e=>(I.bs b o e).1
theorem Inv.mod(I:Inv X pins σ H s):Mod X.K X.mg X.base:=I.ok.mod
theorem Inv.hb(I:Inv X pins σ H s)(hc:X.calm=true):HB s.heap X.A:=by
 rcases I.ok.hd hc with h|⟨a,oe,vs,e1,e2,e3⟩;·exact .inl h
 ·exact .inr ⟨a,oe,vs,e1,e2.elim (I.bk a oe) λm=>(I.pin (a,oe) (List.mem_append_left _ m)).1,e3⟩
theorem Inv.Pj(I:Inv X pins σ H s)(hc:X.calm=true){it:Addr}(f3:it∈X.ex\/X.bO.heap.objs.size<=it)(f5:∀p∈X.pn++pins,p.1≠it):∀a,X.A.handled=some (.ref a)->a≠it:=λa ea z=>by
 subst z;rcases I.ok.hd hc with h|⟨b,oe,vs,e1,e2,e3⟩;·rw[h]at ea;cases ea
 ·rw[e1]at ea;cases ea;rcases e2 with e2|e2
  ·rcases f3 with z|z;·exact I.ok.xf _ _ e2 z
   ·exact absurd (Nat.lt_of_lt_of_le (Heap.lt_size e2) I.ok.Cz) (Nat.not_lt.mpr z)
  ·exact f5 _ (List.mem_append_left _ e2) rfl
theorem Inv.iY(I:Inv X pins σ H s):X.K.In s.heap:=I.ok.mod.ID.keeps I.bk
theorem Inv.fr(I:Inv X pins σ H s):∃m,Fr X.base X.env.locals s.heap m:=let⟨m,hn,_⟩:=I.loc;⟨m,hn,I.bk,Nat.le_trans I.ok.Cz I.ok.above⟩
theorem Inv.lt(I:Inv X pins σ H s):X.env.locals<s.heap.objs.size:=let⟨_,hn,_⟩:=I.loc;hn.lt
theorem Inv.sz(I:Inv X pins σ H s):X.bO.heap.objs.size<=s.heap.objs.size:=Nat.le_trans I.ok.above (Nat.le_of_lt I.lt)
theorem Inv.aaX(I:Inv X pins σ H s){a:Addr}(h:s.heap.objs.size<=a):a∉X.fs:=λhb=>by obtain⟨_,o,ho,_⟩:=I.ok.gL.mem hb;exact absurd (Nat.lt_of_lt_of_le (Heap.lt_size ho) (Nat.le_trans I.sz h)) (Nat.lt_irrefl _)
theorem Inv.Oq(I:Inv X pins σ H s):∀x c,X.env.cells.lookup x=some c->c≠X.env.locals:=λx c e z=>by obtain⟨v,o,ho,hd⟩:=I.cell x c e;obtain⟨m,⟨o',es,ep,K4,hd',_⟩,_⟩:=I.loc;rw[z,K4]at ho;cases ho;rw[hd']at hd;cases hd
theorem Inv.gL(I:Inv X pins σ H s):s.heap.FunFrames X.base X.outer:=by
 have all:∀(l:List Env),(∀b∈hI l,b∈X.fs)->X.bO.heap.FunFrames X.base l->s.heap.FunFrames X.base l:=by intro l;induction l with|nil=>intro _ _;trivial|cons env r ih=>intro hs hl;obtain⟨hk,⟨L,o,hf,hn,ho,hd⟩,hr⟩:=hl;have hL:L∈X.fs:=hs L (by unfold hI;rw[List.filterMap_cons,hf];exact List.mem_cons_self);obtain⟨sl,e⟩:=I.base.slot L o ho (I.ok.Oe L hL) hL λz=>I.ok.Ah L z hL;exact⟨hk,⟨L,_,hf,hn,e,hd⟩,ih (λb hb=>hs b (by unfold hI;rw[List.filterMap_cons,hf];exact List.mem_cons_of_mem _ hb)) hr⟩
 exact all X.outer (λ_ hb=>hb) I.ok.gL
theorem Inv.stack(I:Inv X pins σ H s):s.heap.FunFrames X.base X.stack:=by
 rcases I.ok.Td with e|⟨e,hf⟩;·rw[e];exact I.gL
 ·rw[e];obtain⟨m,hn,_⟩:=I.loc;refine .cons (by rw[I.ok.kind];decide) hf hn ?_ I.gL;exact Heap.get?_none_of_le (Nat.le_trans I.ok.Cz I.ok.above)
theorem Inv.fi(I:Inv X pins σ H s):∀b∈hI X.stack,b∈X.env.locals::X.fs:=λb hb=>by
 rcases I.ok.Td with e|⟨e,hf⟩;·rw[e]at hb;exact List.mem_cons_of_mem _ hb
 ·rw[e]at hb;unfold hI at hb;rw[List.filterMap_cons,hf]at hb;exact hb
theorem Inv.Aj(I:Inv X pins σ H s):∀b∈hI X.stack,H b=none:=λb hb=>by
 rcases List.mem_cons.mp (I.fi b hb)with e|hb;·rw[e];exact I.free
 ·obtain⟨_,o,ho,_⟩:=I.ok.gL.mem hb;exact I.base.free b o ho (I.ok.Oe b hb) λz=>I.ok.Ah b z hb
theorem Inv.step{g':Array GenState}{t':Nat}{d':Drawn}{ch:List Addr}(I:Inv X pins σ H s)(J8:∀b∈ch,(b∈X.ex\/X.bO.heap.objs.size<=b)/\b≠X.env.locals/\(∀x c,X.env.cells.lookup x=some c->c≠b)/\∀p∈X.pn++pins,p.1≠b)(keep:∀b o,b≠X.env.locals->b∉X.fs->b∉ch->s.heap.get? b=some o->H b=none->h'.get? b=some o)(slot:∀b o,b≠X.env.locals->b∈X.fs->b∉ch->s.heap.get? b=some o->H b=none->∃sl,h'.get? b=some {o with slots:=sl})(free:∀b o,b∉ch->s.heap.get? b=some o->H b=none->H' b=none)(there:∀b o,b∉ch->s.heap.get? b=some o->∃o',h'.get? b=some o')(uW:∀b xs,H b=some (.tup xs)->H' b=some (.tup xs))(nA:∀b o u,H b=some (.CA o u)->H' b=some (.CA o u))(m_:∀b ps,H b=some (.wx ps)->H' b=some (.wx ps))(ns:∀m,s.heap.Ns X.env.locals m->h'.Ns X.env.locals m)(bJ:hG X.prog X.w H' h')(hg:AllBare g'):Inv X pins σ H' {s with heap:=h',gens:=g',drawn:=d',toks:=t'}:=by
 have VW:∀b o,X.bO.heap.get? b=some o->b≠X.env.locals:=λb o e=>Nat.ne_of_lt (Nat.lt_of_lt_of_le (Heap.lt_size e) I.ok.above);have neC:∀b o,X.bO.heap.get? b=some o->b∉X.ex->b∉ch:=λb o e hx hb=>by
  rcases(J8 b hb).1 with z|z;·exact hx z
  ·exact absurd (Nat.lt_of_lt_of_le (Heap.lt_size e) z) (Nat.lt_irrefl _)
 have cellK:∀x c,X.env.cells.lookup x=some c->∀v,s.heap.IsCell c v->h'.IsCell c v:=λx c e v⟨o,ho,hd⟩=>by
  have CN:c∉ch:=λz=>(J8 c z).2.2.1 x c e rfl;by_cases hc:c∈X.fs;·obtain⟨sl,q⟩:=slot c o (I.Oq x c e) hc CN ho (I.dW x c e);exact⟨_,q,hd⟩
  ·exact⟨o,keep c o (I.Oq x c e) hc CN ho (I.dW x c e),hd⟩
 refine⟨I.ok,I.os,hg,⟨λb o e n hb hx=>?_,λb o e n hb hx=>?_,λb o e n hx=>?_,λb o e hx=>?_,λb xs e=>uW b xs (I.base.uW b xs e),λb o xs e=>nA b o xs (I.base.nA b o xs e),λb ps e=>?_⟩,?_,λx c e=>?_,?_,λx c e=>?_,λp hp=>?_,bJ,I.len⟩;·exact keep b o (VW b o e) hb (neC b o e hx) (I.base.keep b o e n hb hx) (I.base.free b o e n hx)
 ·obtain⟨sl,e1⟩:=I.base.slot b o e n hb hx;obtain⟨W9,e2⟩:=slot b _ (VW b o e) hb (neC b o e hx) e1 (I.base.free b o e n hx);exact⟨W9,e2⟩
 ·obtain⟨o',e1⟩:=I.base.there b o e hx;exact free b o' (neC b o e hx) e1 (I.base.free b o e n hx)
 ·obtain⟨o',e1⟩:=I.base.there b o e hx;exact there b o' (neC b o e hx) e1
 ·exact m_ b ps (I.base.m_ b ps e)
 ·obtain⟨m,hn,hl⟩:=I.loc;refine⟨m,ns m hn,λi x v e1 e2 e3=>?_⟩;obtain⟨u,r,l⟩:=hl i x v e1 e2 e3;refine⟨u,r,?_⟩;rcases l with l|⟨k,c,e,z⟩;·exact .inl l
  ·exact .inr ⟨k,c,e,cellK x c e _ z⟩
 ·obtain⟨v,z⟩:=I.cell x c e;exact⟨v,cellK x c e v z⟩
 ·obtain⟨m,⟨o,_,_,ho,_⟩,_⟩:=I.loc;exact free _ o (λz=>(J8 _ z).2.1 rfl) ho I.free
 ·obtain⟨v,o,ho,hd⟩:=I.cell x c e;exact free c o (λz=>(J8 c z).2.2.1 x c e rfl) ho (I.dW x c e)
 ·obtain⟨e,n,ne,nf,d⟩:=I.pin p hp;have CN:p.1∉ch:=λz=>(J8 p.1 z).2.2.2 p hp rfl;exact⟨keep p.1 p.2 ne nf CN e n,free p.1 p.2 CN e n,ne,nf,d⟩
theorem Inv.un{t':Nat}(I:Inv X pins σ H s)(u:Un X.fs [] H H' s.heap h')(bJ:hG X.prog X.w H' h'):Inv X pins σ H' {s with heap:=h',toks:=t'}:=by obtain⟨m,⟨o,es,ep,ho,r⟩,_⟩:=id I.loc;obtain⟨sl,hL⟩:=u.any ho I.free (by simp);exact I.step (g':=s.gens) (d':=s.drawn) (ch:=[]) (λ_ z=>nomatch z) (λb o _ hb _ e n=>u.keep b o e n hb (by simp)) (λb o _ hb _ e n=>u.slot b o e n hb (by simp)) (λb o _ e n=>u.free b o e n (by simp)) (λb o _ e=>u.there b o e (by simp)) u.uW u.nA u.m_ (λm' hm=>by obtain⟨o',es',ep',K4,r'⟩:=hm;rw[ho]at K4;cases K4;exact⟨_,es',ep',hL,r'⟩) bJ I.bare
theorem Inv.call{g':Array GenState}{t':Nat}{d':Drawn}{ch:List Addr}(I:Inv X pins σ H s)(u:Un (hI X.stack) ch H H' s.heap h')(bJ:hG X.prog X.w H' h')(hg:AllBare g')(J8:∀b∈ch,(b∈X.ex\/X.bO.heap.objs.size<=b)/\b≠X.env.locals/\(∀x c,X.env.cells.lookup x=some c->c≠b)/\∀p∈X.pn++pins,p.1≠b):Inv X pins σ H' {s with heap:=h',gens:=g',drawn:=d',toks:=t'}:=by obtain⟨m,⟨o,es,ep,ho,r⟩,_⟩:=id I.loc;obtain⟨sl,hL⟩:=u.any ho I.free λz=>(J8 _ z).2.1 rfl;exact I.step (ch:=ch) J8 (λb o hL hb hc e n=>u.keep b o e n (λz=>(List.mem_cons.mp (I.fi b z)).elim hL hb) hc) (λb o _ _ hc e n=>u.any e n hc) (λb o hc e n=>u.free b o e n hc) (λb o hc e=>u.there b o e hc) u.uW u.nA u.m_ (λm' hm=>by obtain⟨o',es',ep',K4,r'⟩:=hm;rw[ho]at K4;cases K4;exact⟨_,es',ep',hL,r'⟩) bJ hg
theorem Inv.turned{t':Nat}{it:Addr}(I:Inv X pins σ H s)(k:∀b o,b≠it->s.heap.get? b=some o->h'.get? b=some o)(hn:H it=none)(hL:it≠X.env.locals)(h1:it∈X.ex\/X.bO.heap.objs.size<=it)(h2:∀x c,X.env.cells.lookup x=some c->c≠it)(h3:∀p∈X.pn++pins,p.1≠it):Inv X pins σ H {s with heap:=h',toks:=t'}:=by
 have nit:∀b u,H b=some u->b≠it:=λb u e z=>by rw[z,hn]at e;cases e
 refine I.step (g':=s.gens) (d':=s.drawn) (ch:=[it]) (λb hb=>?_) (λb o _ _ hc e _=>k b o (λz=>hc (by simp[z])) e) (λb o _ _ hc e _=>⟨o.slots,k b o (λz=>hc (by simp[z])) e⟩) (λ_ _ _ _ n=>n) (λb o hc e=>⟨o,k b o (λz=>hc (by simp[z])) e⟩) (λ_ _ e=>e) (λ_ _ _ e=>e) (λb ps e=>(by rw[e])) (λm hm=>?_) (λb u e=>?_) I.bare
 ·have e:b=it:=by simpa using hb
  subst e;exact⟨h1,hL,h2,h3⟩
 ·obtain⟨o,es,ep,ho,r⟩:=hm;exact⟨o,es,ep,k _ o (Ne.symm hL) ho,r⟩
 ·refine(I.bJ b u e).j3 (λc v hc q=>k c v ?_ q) (λ_ q=>q) λ_ _ q=>q;rcases hc with z|z;·rw[z];exact nit b u e
  ·exact nit c _ z
theorem Inv.tok(I:Inv X pins σ H s)(t:Nat):Inv X pins σ H {s with toks:=t}:=I.un (h':=s.heap) (t':=t) Un.refl I.bJ
theorem Inv.kept{t':Nat}(I:Inv X pins σ H s)(k:∀b u,s.heap.get? b=some u->h'.get? b=some u):Inv X pins σ H {s with heap:=h',toks:=t'}:=I.un (Un.kept k) (I.bJ.kept k)
theorem Inv.laid{a:Addr}{o:HO}{t':Nat}(I:Inv X pins σ H s)(k:∀b u,s.heap.get? b=some u->h'.get? b=some u)(hp:s.heap.objs.size<=a)(new:bV X.prog X.w (upd H a o) h' a o):Inv X pins σ (upd H a o) {s with heap:=h',toks:=t'}:=I.un (Un.laid k hp (I.bJ.fresh hp)) (I.bJ.laid k hp new)
theorem Inv.write{x e:Addr}{o:HO}{t':Nat}(I:Inv X pins σ H s)(mu:YA (H x))(he:e=x\/H e=some (.own x))(k:∀b u,b≠e->s.heap.get? b=some u->h'.get? b=some u)(VX:∃u,h'.get? e=some u)(new:bV X.prog X.w (upd H x o) h' x o):Inv X pins σ (upd H x o) {s with heap:=h',toks:=t'}:=I.un (Un.write mu he k VX) (I.bJ.write mu he k VX new)
theorem Inv.weak{aY:List (Option V)}(I:Inv X pins σ H s)(hl:aY.length=σ.length)(w:∀(i:Nat)v,aY[i]?=some (some v)->σ[i]?=some (some v)):Inv X pins aY H s:=⟨I.ok,I.os,I.bare,I.base,let⟨m,hn,hl'⟩:=I.loc;⟨m,hn,λi x v e1 e2 e3=>hl' i x v e1 (w i v e2) e3⟩,I.cell,I.free,I.dW,I.pin,I.bJ,hl.trans I.len⟩
theorem Inv.tT{B5:List (Addr×Obj)}(I:Inv X pins σ H s)(h:∀p∈B5,s.heap.get? p.1=some p.2/\H p.1=none/\p.1≠X.env.locals/\p.1∉X.fs/\∀v,p.2.data≠ .cell v):Inv X B5 σ H s:=⟨I.ok,I.os,I.bare,I.base,I.loc,I.cell,I.free,I.dW,λp hp=>(List.mem_append.mp hp).elim (λz=>I.pin p (List.mem_append_left _ z)) (h p),I.bJ,I.len⟩
theorem vj{N:List Str}(hN:N.Nodup){i j:Nat}{x:Str}(a:N[i]?=some x)(b:N[j]?=some x):i=j:=by obtain⟨h1,e1⟩:=List.getElem?_eq_some_iff.mp a;obtain⟨h2,e2⟩:=List.getElem?_eq_some_iff.mp b;exact(List.getElem_inj hN).mp (e1.trans e2.symm)
theorem xF{M:Model}{A:Around}{E:Value->Shared->Prop}{i:Nat}{x:Str}{v:V}{u:Value}{Q:Unit->Shared->Prop}(I:Inv X pins σ H s)(hN:X.N.Nodup)(hi:X.N[i]?=some x)(hx:Loc X.env.scope x)(r:RelV v u)(h:∀s',Inv X pins (σ.set i (some v)) H s'->(∃a,Heap.SameBut a s.heap s'.heap/\(a=X.env.locals\/X.env.cells.lookup x=some a))->Q () s')(hf:X.fn x=true\/X.env.scope.names.lookup x=some .local:=by first|exact .inl rfl|exact .inr rfl|assumption):wpAny M A (storeName X.env x u) Q E s:=by
 obtain⟨m,hn,hl⟩:=id I.loc;have ab7:(X.env.scope.kind== .class||(X.env.scope.kind== .module&&X.env.locals !=X.env.globals))=false:=by rw[I.ok.kind];rfl
 have XT:i<σ.length:=by rw[I.len];exact(List.getElem?_eq_some_iff.mp hi).1
 have Oq:=I.Oq;have tracked:∀{a:Addr}{h':Heap},(∃o,s.heap.get? a=some o/\H a=none)->Heap.SameBut a s.heap h'->hG X.prog X.w H h':=λ{a h'}ha hs b ob e=>by
  obtain⟨_,_,Rv⟩:=ha;refine(I.bJ b ob e).j3 (λc w' hc q=>(hs.2 c ?_).trans q) (λ_ q=>q) λ_ _ q=>q;rintro rfl;rcases hc with rfl|hc;·rw[Rv]at e;cases e
  ·rw[Rv]at hc;cases hc
 rcases hx with hk|hk
 ·refine wpAny_storeName_local hk hn (λh' VC hs=>?_) ab7;obtain⟨oL,_,_,hoL,_⟩:=id hn;refine h _ ⟨I.ok,I.os,I.bare,⟨λb o e n hb hx=>?_,λb o e n hb hx=>?_,I.base.free,λb o e hx=>?_,I.base.uW,I.base.nA,I.base.m_⟩,⟨_,VC,λj y v' e1 e2 e3=>?_⟩,λy c e=>?_,I.free,I.dW,λp hp=>?_,tracked ⟨oL,hoL,I.free⟩ hs,by simpa using I.len⟩ ⟨_,hs, .inl rfl⟩;·exact(hs.2 b (Nat.ne_of_lt (Nat.lt_of_lt_of_le (Heap.lt_size e) I.ok.above))).trans (I.base.keep b o e n hb hx)
  ·obtain⟨sl,e1⟩:=I.base.slot b o e n hb hx;exact⟨sl,(hs.2 b (Nat.ne_of_lt (Nat.lt_of_lt_of_le (Heap.lt_size e) I.ok.above))).trans e1⟩
  ·obtain⟨o',e1⟩:=I.base.there b o e hx;exact⟨o',(hs.2 b (Nat.ne_of_lt (Nat.lt_of_lt_of_le (Heap.lt_size e) I.ok.above))).trans e1⟩
  ·by_cases hj:j=i;·subst hj;rw[hi]at e1;cases e1;rw[List.getElem?_set_self XT]at e2;cases e2;exact⟨u,r, .inl ⟨hk,by simp⟩⟩
   ·rw[List.getElem?_set_ne (Ne.symm hj)]at e2;obtain⟨u',r',q⟩:=hl j y v' e1 e2 e3;refine⟨u',r',?_⟩;rcases q with⟨k,e⟩|⟨k,c,e,z⟩;·refine .inl ⟨k,?_⟩;have :y≠x:=λe=>hj (vj hN e1 (e▸hi));simp[this,e]
    ·exact .inr ⟨k,c,e,z.sameBut hs (Oq y c e)⟩
  ·obtain⟨w',z⟩:=I.cell y c e;exact⟨w',z.sameBut hs (Oq y c e)⟩
  ·obtain⟨e,n,ne,nf,d⟩:=I.pin p hp;exact⟨(hs.2 p.1 ne).trans e,n,ne,nf,d⟩
 ·have hfn:X.fn x=true:=by
   rcases hf with z|z;·exact z
   ·rw[z]at hk;cases hk
  obtain⟨c,hc⟩:=I.ok.has x (.inl hk);obtain⟨w',z⟩:=I.cell x c hc;refine wpAny_storeName_cell I.ok.kind hk hc z (λh' jg hs=>?_);obtain⟨oc,hoc,abL⟩:=id z;refine h {s with heap:=h'} ⟨I.ok,I.os,I.bare,⟨λb o e n hb hx=>?_,λb o e n hb hx=>?_,I.base.free,λb o e hx=>?_,I.base.uW,I.base.nA,I.base.m_⟩,⟨m,hn.sameBut hs (Ne.symm (Oq x c hc)),λj y v' e1 e2 e3=>?_⟩,λy c' e=>?_,I.free,I.dW,λp hp=>?_,tracked ⟨oc,hoc,I.dW x c hc⟩ hs,by simpa using I.len⟩ ⟨c,hs, .inr hc⟩;·exact(hs.2 b (Nat.ne_of_lt (Nat.lt_of_lt_of_le (Heap.lt_size e) (I.ok.Po x c hfn hc)))).trans (I.base.keep b o e n hb hx)
  ·obtain⟨sl,e1⟩:=I.base.slot b o e n hb hx;exact⟨sl,(hs.2 b (Nat.ne_of_lt (Nat.lt_of_lt_of_le (Heap.lt_size e) (I.ok.Po x c hfn hc)))).trans e1⟩
  ·obtain⟨o',e1⟩:=I.base.there b o e hx;exact⟨o',(hs.2 b (Nat.ne_of_lt (Nat.lt_of_lt_of_le (Heap.lt_size e) (I.ok.Po x c hfn hc)))).trans e1⟩
  ·by_cases hj:j=i;·subst hj;rw[hi]at e1;cases e1;rw[List.getElem?_set_self XT]at e2;cases e2;exact⟨u,r, .inr ⟨.inl hk,c,hc,jg⟩⟩
   ·rw[List.getElem?_set_ne (Ne.symm hj)]at e2;obtain⟨u',r',q⟩:=hl j y v' e1 e2 e3;refine⟨u',r',?_⟩;rcases q with q|⟨k,c',e,z'⟩;·exact .inl q
    ·refine .inr ⟨k,c',e,z'.sameBut hs ?_⟩;rintro rfl;exact hj (vj hN e1 (I.ok.inj _ _ _ e hc▸hi))
  ·by_cases hcc:c'=c;·subst hcc;exact⟨_,jg⟩
   ·obtain⟨w2,z2⟩:=I.cell y c' e;exact⟨w2,z2.sameBut hs hcc⟩
  ·obtain⟨e,n,ne,nf,d⟩:=I.pin p hp;refine⟨(hs.2 p.1 ?_).trans e,n,ne,nf,d⟩;intro q;rw[q,hoc]at e;have q':oc=p.2:=Option.some.inj e;exact d w' (by rw[<-q'];exact abL)
theorem iw{M:Model}{A:Around}{E:Value->Shared->Prop}{i:Nat}{x:Str}{v:V}{u:Value}{Q:Unit->Shared->Prop}(I:Inv X pins σ H s)(hN:X.N.Nodup)(hi:X.N[i]?=some x)(hx:Loc X.env.scope x)(r:RelV v u)(h:∀s',Inv X pins (σ.set i (some v)) H s'->Q () s')(hf:X.fn x=true\/X.env.scope.names.lookup x=some .local:=by first|exact .inl rfl|exact .inr rfl|assumption):wpAny M A (storeName X.env x u) Q E s:=xF I hN hi hx r (λs' I' _=>h s' I') hf
theorem Inv.Mi{s':Shared}{ch:List Addr}(I:Inv X pins σ H s)(ho:s'.os=s.os)(u:Un (hI X.stack) ch H H' s.heap s'.heap)(bJ:hG X.prog X.w H' s'.heap)(hg:AllBare s'.gens)(J8:∀b∈ch,(b∈X.ex\/X.bO.heap.objs.size<=b)/\b≠X.env.locals/\(∀x c,X.env.cells.lookup x=some c->c≠b)/\∀p∈X.pn++pins,p.1≠b):Inv X pins σ H' s':=by obtain⟨h',g',d',t',o'⟩:=s';have e:o'=s.os:=ho;subst e;exact I.call (g':=g') (t':=t') (d':=d') u bJ hg J8
end
noncomputable abbrev XK:=Value->Option Addr->Hp->Prop
noncomputable abbrev St:=List (Option V)
noncomputable abbrev VK:=V->Hp->Prop
noncomputable abbrev TE:=St->Hp->VK->Prop
noncomputable abbrev TT:=St->Hp->(Bool->Hp->Prop)->Prop
noncomputable abbrev TA:=St->Hp->(List V->Hp->Prop)->Prop
structure Ends where
 nx:St->Hp->Prop
 rt:VK
 bk:St->Hp->Prop:=λ_ _=>False
 ct:St->Hp->Prop:=λ_ _=>False
noncomputable abbrev TS:=Ends->St->Hp->Prop
noncomputable def EP(X:Cx)(pins:List (Addr×Obj))(σ:St)(Q:VK)(u:Value)(s':Shared):Prop:=∃v H',Inv X pins σ H' s'/\RelV v u/\Q v H'
noncomputable def TP(X:Cx)(pins:List (Addr×Obj))(σ:St)(Q:Bool->Hp->Prop)(b:Bool)(s':Shared):Prop:=∃H',Inv X pins σ H' s'/\Q b H'
noncomputable def AP(X:Cx)(pins:List (Addr×Obj))(σ:St)(Q:List V->Hp->Prop)(us:List Value)(s':Shared):Prop:=∃vs H',Inv X pins σ H' s'/\Vals vs us/\Q vs H'
noncomputable def SP(X:Cx)(pins:List (Addr×Obj))(D:Ends)(f:Flow)(s':Shared):Prop:=match f with| .next=>∃aY H',Inv X pins aY H' s'/\D.nx aY H'| .brk=>∃aY H',Inv X pins aY H' s'/\D.bk aY H'| .cont=>∃aY H',Inv X pins aY H' s'/\D.ct aY H'| .ret u=>∃v aY H',Inv X pins aY H' s'/\RelV v u/\D.rt v H'
noncomputable def PE(X:Cx)(e:Expr)(t:TE):Prop:=∀(pins:List (Addr×Obj))(s:Shared)(σ:St)(H:Hp)(Q:VK),Inv X pins σ H s->t σ H Q->wpAny (model X.prog X.w) X.A (eval e X.env) (EP X pins σ Q) X.xe s
noncomputable def PT(X:Cx)(e:Expr)(t:TT):Prop:=∀(pins:List (Addr×Obj))(s:Shared)(σ:St)(H:Hp)(Q:Bool->Hp->Prop),Inv X pins σ H s->t σ H Q->wpAny (model X.prog X.w) X.A (isTrue e X.env (eval e X.env)) (TP X pins σ Q) X.xe s
noncomputable def PW(X:Cx)(e:Expr)(t:TT):Prop:=∀(whole:Sem Value)(pins:List (Addr×Obj))(s:Shared)(σ:St)(H:Hp)(Q:Bool->Hp->Prop),Inv X pins σ H s->t σ H Q->wpAny (model X.prog X.w) X.A (isTrue e X.env whole) (TP X pins σ Q) X.xe s
theorem PW.pt{X:Cx}{e:Expr}{t:TT}(h:PW X e t):PT X e t:=h _
noncomputable def PA(X:Cx)(es:List Expr)(t:TA):Prop:=∀(pos:Pos)(pins:List (Addr×Obj))(s:Shared)(σ:St)(H:Hp)(Q:List V->Hp->Prop),Inv X pins σ H s->t σ H Q->wpAny (model X.prog X.w) X.A (spliced (backTo pos (starEach es X.env))) (AP X pins σ Q) X.xe s
noncomputable def PS(X:Cx)(st:Stmt)(t:TS):Prop:=∀(pins:List (Addr×Obj))(s:Shared)(σ:St)(H:Hp)(D:Ends),Inv X pins σ H s->t D σ H->wpAny (model X.prog X.w) X.A (exec st X.env) (SP X pins D) X.xe s
noncomputable def eM(X:Cx)(st:List Stmt)(t:TS):Prop:=∀(pins:List (Addr×Obj))(s:Shared)(σ:St)(H:Hp)(D:Ends),Inv X pins σ H s->t D σ H->wpAny (model X.prog X.w) X.A (execs st X.env) (SP X pins D) X.xe s
theorem bG{α:Type}{t:Sem α}{Q Q':α->Shared->Prop}{M:Model}{A:Around}{E:Value->Shared->Prop}{s:Shared}(h:wpAny M A t Q E s)(hQ:∀a s,Q a s->Q' a s):wpAny M A t Q' E s:=wpAny_mono h hQ λ_ _ x=>x
end L2
namespace L2
open PySem PySem.Spec PyProof.Rows
section
variable{X:Cx}
noncomputable def V9(i:Nat):TE:=λσ H Q=>∃v,σ[i]?=some (some v)/\Q v H
noncomputable def tC(v:V):TE:=λ_ H Q=>Q v H
theorem N4{i:Nat}{x:Str}{pos:Pos}(hN:X.N[i]?=some x)(hv:VS X.env.scope x)(hd:(x==("__debug__":Str))=false:=by decide)(wN:(x==("__classdict__":Str))=false:=by decide):PE X (.Name x pos) (V9 i):=by
 intro pins s σ H Q I h;obtain⟨v,e,h⟩:=h;obtain⟨m,hn,hl⟩:=I.loc;obtain⟨u,r,l⟩:=hl i x v hN e hv;have fin:EP X pins σ Q u s:=⟨v,H,I,r,h⟩;rcases l with⟨hk,hm⟩|⟨hk,c,hc,xP⟩;·exact wpAny_Name (wpAny_loadName_local I.ok.kind hk hn hm fin) hd
 ·rcases hk with hk|hk;·exact wpAny_Name (wpAny_loadName_cell I.ok.kind hk hc xP fin) hd
  ·exact wpAny_Name (wpAny_loadName_free I.ok.kind hk hc xP fin wN) hd
theorem aj{i j pos}:PE X (.Constant (.int i) j pos) (tC (.int i)):=λ_ _ _ H _ I h=>wpAny_Constant_int ⟨.int i,H,I.tok _,⟨_,rfl⟩,h⟩
theorem xw{b j pos}:PE X (.Constant (.bool b) j pos) (tC (.bl b)):=λ_ _ _ H _ I h=>Constant_bool ⟨.bl b,H,I,rfl,h⟩
theorem jD{j pos}:PE X (.Constant .none j pos) (tC .ba):=λ_ _ _ H _ I h=>Constant_none ⟨.ba,H,I,rfl,h⟩
theorem ar{x j pos}:PE X (.Constant (.str x) j pos) (tC (.str x)):=λ_ _ _ H _ I h=>Calls.Constant_str ⟨.str x,H,I.tok _,⟨_,rfl⟩,h⟩
noncomputable def Gl(X:Cx)(x:Str):Prop:=X.env.kindOf x=some .globalImplicit
theorem gK{E:Value->Shared->Prop}{pins:List (Addr×Obj)}{s:Shared}{σ:St}{H:Hp}{x:Str}{u:Value}{pos:Pos}{Q:Value->Shared->Prop}(I:Inv X pins σ H s)(hg:Gl X x)(hm:X.mg x=some u)(h:Q u s)(hd:(x==("__debug__":Str))=false:=by decide):wpAny (model X.prog X.w) X.A (eval (.Name x pos) X.env) Q E s:=Calls.Name_function_global I.ok.kind hg (Calls.loadGlobal_global (by rw[I.ok.glob];exact I.mod.glob.keeps I.bk) hm h) hd
theorem jr{E:Value->Shared->Prop}{pins:List (Addr×Obj)}{s:Shared}{σ:St}{H:Hp}{x:Str}{u:Value}{pos:Pos}{Q:Value->Shared->Prop}(I:Inv X pins σ H s)(hg:Gl X x)(hm:X.mg x=none)(hv:bootBuiltins x=some u)(h:Q u s)(hn:x≠"__name__":=by decide)(hd:(x==("__debug__":Str))=false:=by decide):wpAny (model X.prog X.w) X.A (eval (.Name x pos) X.env) Q E s:=by obtain⟨mb,h1,h2⟩:=I.mod.blt;exact Calls.Name_function_global I.ok.kind hg (Calls.loadGlobal_builtin (by rw[I.ok.glob];exact I.mod.glob.keeps I.bk) hm (by rw[I.ok.blt];exact h1.keeps I.bk) ((h2 x hn).trans hv) h) hd
theorem F8{x:Str}{v:V}{u:Value}{pos:Pos}(hg:Gl X x)(hm:X.mg x=some u)(r:RelV v u)(hd:(x==("__debug__":Str))=false:=by decide):PE X (.Name x pos) (tC v):=λ_ _ _ H _ I h=>gK I hg hm ⟨v,H,I,r,h⟩ hd
theorem OR{x:Str}{v:V}{u:Value}{pos:Pos}(hg:Gl X x)(hm:X.mg x=none)(hv:bootBuiltins x=some u)(r:RelV v u)(hn:x≠"__name__":=by decide)(hd:(x==("__debug__":Str))=false:=by decide):PE X (.Name x pos) (tC v):=λ_ _ _ H _ I h=>jr I hg hm hv ⟨v,H,I,r,h⟩ hn hd
variable{a b:Expr}{ta tb:TE}{pos:Pos}
noncomputable def PC(X:Cx)(op:CmpOp)(a b:Expr)(t:TE):Prop:=∀(pins:List (Addr×Obj))(s:Shared)(σ:St)(H:Hp)(Q:VK),Inv X pins σ H s->t σ H Q->wpAny (model X.prog X.w) X.A (eval a X.env) (λv bK=>wpAny (model X.prog X.w) X.A (eval b X.env) (λu lH=>wpAny (model X.prog X.w) X.A (compareOp op v u) (EP X pins σ Q) X.xe lH) X.xe bK) X.xe s
noncomputable def tB(t:TE):TT:=λσ H Q=>t σ H λx H1=>∃c,x= .bl c/\Q c H1
theorem SM{op:CmpOp}{t:TE}(h:PC X op a b t)(h1:behindInMarks op b=false:=by first|exact Zv _ (by decide) (by decide)|rfl):PT X (.Compare a [op] [b] pos) (tB t):=by intro pins s σ H Q I hw;refine wpAny_isTrue_Compare1 (bG (h pins s σ H _ I hw) λv s1 h1=>bG h1 λu s2 h2=>bG h2 λc s3⟨x,H1,I1,r1,q1⟩=>?_) h1;obtain⟨d,rfl,q⟩:=q1;cases r1;exact wpAny_truthy_bool ⟨H1,I1,q⟩
theorem lJ{e:Expr}{t:TE}(h:PE X e t)(he:∀whole,isTrue e X.env whole=(do let v<-whole;standAt e.pos;holding [v] (truthy v)):=by intro _;rfl):PT X e (tB t):=by intro pins s σ H Q I hw;refine isTrue_plain (bG (h pins s σ H _ I hw) λv s1⟨x,H1,I1,r1,q1⟩=>?_) (he _);obtain⟨d,rfl,q⟩:=q1;cases r1;exact wpAny_truthy_bool ⟨H1,I1,q⟩
variable{tA tB':TT}{rest:List Expr}
noncomputable def aaJ(t u:TT):TT:=λσ H Q=>t σ H λc H1=>if c=true then u σ H1 Q else Q false H1
noncomputable def tOr(t u:TT):TT:=λσ H Q=>t σ H λc H1=>if c=true then Q true H1 else u σ H1 Q
noncomputable def acp(t:TT):TT:=λσ H Q=>t σ H λc H1=>Q (!c) H1
theorem E7(ha:PT X a tA):PW X (.BoolOp .And [a] pos) tA:=by intro wh pins s σ H Q I h;refine isTrue_and (bG (ha pins s σ H Q I h) λc s1 e=>?_);cases c with|true=>exact isTrue_and_nil e|false=>exact e
theorem yu(ha:PT X a tA):PW X (.BoolOp .Or [a] pos) tA:=by intro wh pins s σ H Q I h;refine isTrue_or (bG (ha pins s σ H Q I h) λc s1 e=>?_);cases c with|false=>exact isTrue_or_nil e|true=>exact e
theorem Lc(ha:PT X a tA)(hb:PW X (.BoolOp .And (b::rest) pos) tB'):PW X (.BoolOp .And (a::b::rest) pos) (aaJ tA tB'):=by intro wh pins s σ H Q I h;refine isTrue_and (bG (ha pins s σ H _ I h) λc s1⟨H1,I1,q1⟩=>?_);cases c with|true=>exact hb wh pins s1 σ H1 Q I1 q1|false=>exact⟨H1,I1,q1⟩
theorem BR(ha:PT X a tA)(hb:PW X (.BoolOp .Or (b::rest) pos) tB'):PW X (.BoolOp .Or (a::b::rest) pos) (tOr tA tB'):=by intro wh pins s σ H Q I h;refine isTrue_or (bG (ha pins s σ H _ I h) λc s1⟨H1,I1,q1⟩=>?_);cases c with|true=>exact⟨H1,I1,q1⟩|false=>exact hb wh pins s1 σ H1 Q I1 q1
theorem CY(ha:PT X a tA):PT X (.UnaryOp .Not a pos) (acp tA):=by intro pins s σ H Q I h;exact isTrue_not (ha pins s σ H (λc H1=>Q (!c) H1) I h)
noncomputable def Xr(ta tb:TE):TE:=λσ H Q=>ta σ H λx H1=>∃c,x= .bl c/\if c=true then tb σ H1 Q else Q (.bl false) H1
noncomputable def aby(ta tb:TE):TE:=λσ H Q=>ta σ H λx H1=>∃c,x= .bl c/\if c=true then Q (.bl true) H1 else tb σ H1 Q
noncomputable def Z3(ta:TE):TE:=λσ H Q=>ta σ H λx H1=>∃c,x= .bl c/\Q (.bl (!c)) H1
theorem Mb{op}{t:TE}(h:PE X a t):PE X (.BoolOp op [a] pos) t:=λpins s σ H Q I hw=>BoolOp_one (h pins s σ H Q I hw)
theorem R3(ha:PE X a ta)(hb:PE X (.BoolOp .And (b::rest) pos) tb):PE X (.BoolOp .And (a::b::rest) pos) (Xr ta tb):=by intro pins s σ H Q I h;refine BoolOp_and (bG (ha pins s σ H _ I h) λv s1⟨x,H1,I1,r1,q1⟩=>?_);obtain⟨c,rfl,q1⟩:=q1;cases r1;refine wpAny_truthy_bool ?_;cases c with|true=>exact hb pins s1 σ H1 Q I1 q1|false=>exact⟨.bl false,H1,I1,rfl,q1⟩
theorem RJ(ha:PE X a ta)(hb:PE X (.BoolOp .Or (b::rest) pos) tb):PE X (.BoolOp .Or (a::b::rest) pos) (aby ta tb):=by intro pins s σ H Q I h;refine BoolOp_or (bG (ha pins s σ H _ I h) λv s1⟨x,H1,I1,r1,q1⟩=>?_);obtain⟨c,rfl,q1⟩:=q1;cases r1;refine wpAny_truthy_bool ?_;cases c with|false=>exact hb pins s1 σ H1 Q I1 q1|true=>exact⟨.bl true,H1,I1,rfl,q1⟩
theorem So(ha:PE X a ta):PE X (.UnaryOp .Not a pos) (Z3 ta):=by intro pins s σ H Q I h;refine UnaryOp_ (bG (ha pins s σ H _ I h) λv s1⟨x,H1,I1,r1,q1⟩=>?_);obtain⟨c,rfl,q1⟩:=q1;cases r1;exact not_of (wpAny_truthy_bool ⟨.bl (!c),H1,I1,rfl,q1⟩)
noncomputable def tIf(t:TT)(ta tb:TE):TE:=λσ H Q=>t σ H λc H1=>if c=true then ta σ H1 Q else tb σ H1 Q
theorem ic{c:Expr}(hc:PT X c tA)(ha:PE X a ta)(hb:PE X b tb):PE X (.IfExp c a b pos) (tIf tA ta tb):=by intro pins s σ H Q I h;refine wpAny_IfExp (bG (hc pins s σ H _ I h) λd s1⟨H1,I1,q1⟩=>?_);cases d with|true=>exact ha pins s1 σ H1 Q I1 q1|false=>exact hb pins s1 σ H1 Q I1 q1
end
end L2
namespace L2
open PySem PySem.Spec PyProof.Rows
noncomputable def bQ(K:PySem.W.Frag)(H:Hp)(a:Addr)(xs:List V):Prop:=Rd H a (.lst xs)\/∃(o:Obj)(aI:Array Value)(n:Nat),K.lookup a=some o/\o.cls= .type "list"/\o.dict=none/\o.data= .seq aI n/\aI.size<=sizeLine/\Vals xs aI.toList
noncomputable def bN(K:PySem.W.Frag)(H:Hp)(a:Addr)(xs:List V):Prop:=Rd H a (.tup xs)\/∃(o:Obj)(aI:Array Value)(n:Nat),K.lookup a=some o/\o.cls= .type "tuple"/\o.data= .seq aI n/\aI.size<=sizeLine/\Vals xs aI.toList
noncomputable def acg:Value->Option V| .none=>some .ba| .bool b=>some (.bl b)| .int i _=>some (.int i)| .str x _=>some (.str x)| .bytes b _=>some (.J6 b)| .float b _=>some (.Uo b)| .ref a=>some (.ref a)| .type n=>some (.ty n)|_=>none
theorem RelV.abs{x:V}{u:Value}(r:RelV x u):acg u=some x:=by cases x with|ba=>cases r;rfl|bl _=>cases r;rfl|int _=>obtain⟨t,rfl⟩:=r;rfl|str _=>obtain⟨t,rfl⟩:=r;rfl|J6 _=>obtain⟨t,rfl⟩:=r;rfl|Uo _=>obtain⟨t,rfl⟩:=r;rfl|ref _=>cases r;rfl|ty _=>cases r;rfl
theorem RelV.inj{x y:V}{u:Value}(r:RelV x u)(q:RelV y u):x=y:=Option.some.inj (r.abs.symm.trans q.abs)
theorem Vals.inj:∀{xs ys:List V}{us:List Value},Vals xs us->Vals ys us->xs=ys|_,_,_, .nil, .nil=>rfl|_,_,_, .cons r t, .cons r' t'=>by rw[r.inj r',Vals.inj t t']
section
variable{X:Cx}{pins:List (Addr×Obj)}{σ:St}{H:Hp}{s:Shared}{a:Addr}{xs ys:List V}
theorem bQ.of{K:PySem.W.Frag}(h:H a=some (.lst xs)):bQ K H a xs:= .inl (.inl h)
theorem bN.of{K:PySem.W.Frag}(h:H a=some (.tup xs)):bN K H a xs:= .inl (.inl h)
theorem Inv.list(I:Inv X pins σ H s)(h:bQ X.K H a xs):∃aI:List Value,Vals xs aI/\PlainL s.heap a aI.toArray/\xs.length<=sizeLine:=by
 rcases h with h|⟨o,aI,n,hk,hc,hd,hs,hz,r⟩;·obtain⟨z,aI,n,r,e⟩:=h.ok I.bJ;exact⟨aI,r,⟨_,n,e,rfl,rfl,rfl⟩,z⟩
 ·refine⟨aI.toList,r,⟨o,n,I.iY a o hk,hc,hd,by simpa using hs⟩,?_⟩;have e:=r.length;simp only[Array.length_toList]at e;omega
theorem Inv.tuple(I:Inv X pins σ H s)(h:bN X.K H a xs):∃aI:List Value,Vals xs aI/\IsTup s.heap a aI.toArray/\xs.length<=sizeLine:=by
 rcases h with h|⟨o,aI,n,hk,hc,hs,hz,r⟩;·obtain⟨z,aI,r,p⟩:=h.ok I.bJ;exact⟨aI,r,p,z⟩
 ·refine⟨aI.toList,r,⟨o,I.iY a o hk,hc,n,by simpa using hs⟩,?_⟩;have e:=r.length;simp only[Array.length_toList]at e;omega
theorem Inv.jR(I:Inv X pins σ H s)(h:bQ X.K H a xs)(h':bQ X.K H a ys):xs=ys:=by
 obtain⟨aI,r,⟨o,n,e,_,_,d⟩,_⟩:=I.list h;obtain⟨its',r',⟨o',n',e',_,_,d'⟩,_⟩:=I.list h';rw[e]at e';cases e';rw[d]at d';injection d' with d1 _;have :aI=its':=by simpa using congrArg Array.toList d1
 subst this;exact r.inj r'
theorem Inv.JD(I:Inv X pins σ H s)(h:bN X.K H a xs)(h':bN X.K H a ys):xs=ys:=by
 obtain⟨aI,r,⟨o,e,_,n,d⟩,_⟩:=I.tuple h;obtain⟨its',r',⟨o',e',_,n',d'⟩,_⟩:=I.tuple h';rw[e]at e';cases e';rw[d]at d';injection d' with d1 _;have :aI=its':=by simpa using congrArg Array.toList d1
 subst this;exact r.inj r'
end
noncomputable abbrev Cx.nu(X:Cx)(E:Value->Shared->Prop):Cx:={X with xe:=E}
noncomputable abbrev Cx.Ka(X:Cx):Cx:=X.nu λ_ _=>False
theorem Cx.Ok.nu{X:Cx}(ok:X.Ok)(E:Value->Shared->Prop):(X.nu E).Ok:=⟨ok.mod,ok.kind,ok.glob,ok.blt,ok.above,ok.inj,ok.has,ok.Po,ok.hd,ok.frames,ok.Td,ok.Sd,ok.bs,ok.Cz,ok.xf,ok.Ah,ok.gL,ok.Oe⟩
theorem Cx.Ok.dX{X:Cx}{E:Value->Shared->Prop}(ok:(X.nu E).Ok):X.Ok:=⟨ok.mod,ok.kind,ok.glob,ok.blt,ok.above,ok.inj,ok.has,ok.Po,ok.hd,ok.frames,ok.Td,ok.Sd,ok.bs,ok.Cz,ok.xf,ok.Ah,ok.gL,ok.Oe⟩
section
variable{X:Cx}{pins:List (Addr×Obj)}{σ:St}{H:Hp}{s:Shared}{E:Value->Shared->Prop}
theorem Inv.nu(I:Inv X pins σ H s)(E:Value->Shared->Prop):Inv (X.nu E) pins σ H s:=⟨I.ok.nu E,I.os,I.bare,I.base,I.loc,I.cell,I.free,I.dW,I.pin,I.bJ,I.len⟩
theorem Inv.dX(I:Inv (X.nu E) pins σ H s):Inv X pins σ H s:=⟨I.ok.dX,I.os,I.bare,I.base,I.loc,I.cell,I.free,I.dW,I.pin,I.bJ,I.len⟩
theorem SP.dX{D:Ends}{f:Flow}{s':Shared}(h:SP (X.nu E) pins D f s'):SP X pins D f s':=by cases f with|next=>obtain⟨aY,H',I,q⟩:=h;exact⟨aY,H',I.dX,q⟩|brk=>obtain⟨aY,H',I,q⟩:=h;exact⟨aY,H',I.dX,q⟩|cont=>obtain⟨aY,H',I,q⟩:=h;exact⟨aY,H',I.dX,q⟩|ret u=>obtain⟨v,aY,H',I,r,q⟩:=h;exact⟨v,aY,H',I.dX,r,q⟩
theorem eM.Ka{st:List Stmt}{t:TS}(h:eM X.Ka st t):eM X st t:=λpins s σ H D I hw=>wpAny_mono (h pins s σ H D (I.nu _) hw) (λ_ _ q=>q.dX) λ_ _ z=>False.elim z
end
section
variable{X:Cx}{st:Stmt}{rest:List Stmt}{t u:TS}{e:Expr}{te:TE}{pos:Pos}
noncomputable def YY:TS:=λD σ H=>D.nx σ H
noncomputable def bP(t u:TS):TS:=λD σ H=>t {D with nx:=u D} σ H
theorem aN:eM X [] YY:=λ_ _ σ H _ I h=>wpAny_execs_nil ⟨σ,H,I,h⟩
theorem ah(h1:PS X st t)(h2:eM X rest u):eM X (st::rest) (bP t u):=by intro pins s σ H D I h;refine wpAny_execs_cons (bG (h1 pins s σ H {D with nx:=u D} I h) λf s1 q=>?_);cases f with|next=>obtain⟨aY,H',I',q⟩:=q;exact h2 pins s1 aY H' D I' q|ret v=>exact q|brk=>exact q|cont=>exact q
theorem aq(h1:PS X st t):eM X [st] t:=by intro pins s σ H D I h;refine wpAny_execs_cons (bG (h1 pins s σ H D I h) λf s1 q=>?_);cases f with|next=>exact wpAny_execs_nil q|ret v=>exact q|brk=>exact q|cont=>exact q
theorem Inv.quiet{pins:List (Addr×Obj)}{σ:St}{H:Hp}{s:Shared}(I:Inv X pins σ H s):interactive X.env=false:=by simp[interactive,I.ok.kind]
noncomputable def YG(te:TE):TS:=λD σ H=>te σ H λ_ H1=>D.nx σ H1
theorem DZ(he:PE X e te)(hs:swapsWith e none pos.line X.env=pure false:=by rfl):PS X (.Expr e pos) (YG te):=by intro pins s σ H D I h;exact wpAny_Expr_any (bG (he pins s σ H _ I h) λv s1⟨x,H1,I1,r1,q1⟩=>⟨σ,H1,I1,q1⟩) I.quiet hs
noncomputable def abR(te:TE):TS:=λD σ H=>te σ H D.rt
theorem aB(he:PE X e te):PS X (.Return (some e) pos) (abR te):=by intro pins s σ H D I h;exact wpAny_Return_some (bG (he pins s σ H _ I h) λv s1⟨x,H1,I1,r1,q1⟩=>⟨x,σ,H1,I1,r1,q1⟩)
noncomputable def acF(c:TT)(t u:TS):TS:=λD σ H=>c σ H λb H1=>if b=true then t D σ H1 else u D σ H1
theorem bB{c:Expr}{a b:List Stmt}{tc:TT}(hc:PT X c tc)(ha:eM X a t)(hb:eM X b u):PS X (.If c a b pos) (acF tc t u):=by intro pins s σ H D I h;refine wpAny_If (bG (hc pins s σ H _ I h) λd s1⟨H1,I1,q1⟩=>?_);cases d with|true=>exact ha pins s1 σ H1 D I1 q1|false=>exact hb pins s1 σ H1 D I1 q1
end
noncomputable abbrev TG:=V->St->Hp->(St->Hp->Prop)->Prop
noncomputable abbrev Vj:=List V->St->Hp->(St->Hp->Prop)->Prop
noncomputable def PG(X:Cx)(target:Expr)(t:TG):Prop:=∀(pins:List (Addr×Obj))(s:Shared)(σ:St)(H:Hp)(v:V)(u:Value)(Q:St->Hp->Prop),Inv X pins σ H s->RelV v u->t v σ H Q->wpAny (model X.prog X.w) X.A (assign target X.env u) (λ_ s'=>∃aY H',Inv X pins aY H' s'/\Q aY H') X.xe s
noncomputable def kW(X:Cx)(ts:List Expr)(t:Vj):Prop:=∀(pins:List (Addr×Obj))(s:Shared)(σ:St)(H:Hp)(vs:List V)(us:List Value)(Q:St->Hp->Prop),Inv X pins σ H s->Vals vs us->t vs σ H Q->wpAny (model X.prog X.w) X.A (assignInOrder ((assignEach ts X.env).map (·.2)) us) (λ_ s'=>∃aY H',Inv X pins aY H' s'/\Q aY H') X.xe s
noncomputable abbrev Vb:=V->V->V->Hp->(Hp->Prop)->Prop
noncomputable def Zz(X:Cx)(t:Vb):Prop:=∀(pins:List (Addr×Obj))(s:Shared)(σ:St)(H:Hp)(o i v:V)(ov iv u:Value)(Q:Hp->Prop),Inv X pins σ H s->RelV o ov->RelV i iv->RelV v u->t o i v H Q->wpAny (model X.prog X.w) X.A (setItem ov iv u) (λ_ s'=>∃H',Inv X pins σ H' s'/\Q H') X.xe s
noncomputable abbrev TIp:=V->V->Hp->VK->Prop
noncomputable def PIp(X:Cx)(op:Operator)(t:TIp):Prop:=∀(pins:List (Addr×Obj))(s:Shared)(σ:St)(H:Hp)(x y:V)(v u:Value)(Q:VK),Inv X pins σ H s->RelV x v->RelV y u->t x y H Q->wpAny (model X.prog X.w) X.A (inplaceOp op v u) (EP X pins σ Q) X.xe s
section
variable{X:Cx}{pos:Pos}
noncomputable def vZ(i:Nat):TG:=λv σ H Q=>Q (σ.set i (some v)) H
theorem bA{i:Nat}{x:Str}(hN:X.N.Nodup)(hi:X.N[i]?=some x)(hx:Loc X.env.scope x)(hf:X.fn x=true\/X.env.scope.names.lookup x=some .local:=by first|exact .inl rfl|exact .inr rfl|assumption):PG X (.Name x pos) (vZ i):=by intro pins s σ H v u Q I r h;exact wpAny_assign_Name (iw I hN hi hx r (λs' I'=>⟨_,H,I',h⟩) hf)
noncomputable def XX:Vj:=λvs σ H Q=>vs=[]/\Q σ H
noncomputable def Ki(t:TG)(u:Vj):Vj:=λvs σ H Q=>∃v r,vs=v::r/\t v σ H λaY H'=>u r aY H' Q
theorem jQ:kW X [] XX:=by intro pins s σ H vs us Q I r h;obtain⟨e,h⟩:=h;subst e;cases r;exact assignInOrder_nil ⟨σ,H,I,h⟩
theorem cz{e:Expr}{es:List Expr}{t:TG}{u:Vj}(h1:PG X e t)(h2:kW X es u)(hs:(assignEach (e::es) X.env).map (·.2)=assign e X.env::(assignEach es X.env).map (·.2):=by rfl):kW X (e::es) (Ki t u):=by intro pins s σ H vs us Q I r h;obtain⟨v,vr,e1,h⟩:=h;subst e1;cases r with|cons r rr=>rw[hs];refine assignInOrder_cons (bG (h1 pins s σ H _ _ _ I r h) λ_ s1⟨VQ,H1,I1,q1⟩=>?_);exact h2 pins s1 VQ H1 _ _ Q I1 rr q1
noncomputable def Wl(K:PySem.W.Frag)(n:Nat)(t:Vj):TG:=λv σ H Q=>∃a xs,v= .ref a/\bN K H a xs/\xs.length=n/\t xs σ H Q
theorem ve{es:List Expr}{k:Nat}{t:Vj}{n:Nat}(hc:X.calm=true)(h:kW X es t)(hn:(assignEach es X.env).length=n:=by rfl)(Mw:(assignEach es X.env).findIdx? (·.1)=none:=by rfl):PG X (.Tuple es k pos) (Wl X.K n t):=by intro pins s σ H v u Q I r hw;obtain⟨a,xs,e1,hq,hl,hw⟩:=hw;subst e1;cases r;obtain⟨aI,rv,ht,hz⟩:=I.tuple hq;refine O8 (I.hb hc) (show s.heap.IsTuple a aI.toArray from ht) (by simp[hn,<-hl,rv.length]) Mw λh' hx=>?_;have I1:Inv X pins σ H {s with heap:=h'}:=I.kept (t':=s.toks) λb o e=>hx b o (Nat.ne_of_lt (Heap.lt_size e)) e;exact h pins _ σ H xs _ Q I1 (by simpa using rv) hw
noncomputable def aaA(to ti:TE)(t:Vb):TG:=λv σ H Q=>to σ H λo H1=>ti σ H1 λi H2=>t o i v H2 λH3=>Q σ H3
theorem Mc{o i:Expr}{to ti:TE}{t:Vb}(ho:PE X o to)(hi:PE X i ti)(hs:Zz X t)(ha:∀v,assign (.Subscript o i pos) X.env v=(do let ov<-holding [v] (eval o X.env);let iv<-holding [v,ov] (eval i X.env);standAt pos;holding [v,ov,iv] (setItem ov iv v);release [v,ov,iv] []):=by intro _;rfl):PG X (.Subscript o i pos) (aaA to ti t):=by intro pins s σ H v u Q I r h;rw[ha];refine wpAny_bind (wpAny_holding (bG (ho pins s σ H _ I h) λov s1⟨x,H1,I1,r1,q1⟩=>?_));refine wpAny_bind (wpAny_holding (bG (hi pins s1 σ H1 _ I1 q1) λiv s2⟨y,H2,I2,r2,q2⟩=>?_));refine wpAny_bind (wpAny_standAt (wpAny_bind (wpAny_holding (bG (hs pins s2 σ H2 x y v ov iv u _ I2 r1 r2 r q2) λ_ s3⟨H3,I3,q3⟩=>?_))));exact wpAny_release ⟨σ,H3,I3,q3⟩
noncomputable def Tc(te:TE)(g:TG):TS:=λD σ H=>te σ H λx H1=>g x σ H1 D.nx
theorem C3{tg e:Expr}{te:TE}{g:TG}(he:PE X e te)(hg:PG X tg g)(hs:swapsWithSole [tg] e pos.line X.env=pure false:=by rfl)(hw:swappedStores [tg] e X.env=pure none:=by rfl)(h1:(assignEach [tg] X.env).map (·.2)=[assign tg X.env]:=by rfl):PS X (.Assign [tg] e pos) (Tc te g):=by intro pins s σ H D I h;refine wpAny_Assign_stores (bG (he pins s σ H _ I h) λv s1⟨x,H1,I1,r1,q1⟩=>?_) hs hw;rw[h1];exact bG (hg pins s1 σ H1 x v _ I1 r1 q1) λ_ s2 q=>q
theorem aD{i:Nat}{x:Str}{e:Expr}{te:TE}{pos':Pos}(hN:X.N.Nodup)(hi:X.N[i]?=some x)(hx:Loc X.env.scope x)(he:PE X e te)(hs:swapsWith e (some (.Name x pos')) pos.line X.env=pure false:=by rfl)(hf:X.fn x=true\/X.env.scope.names.lookup x=some .local:=by first|exact .inl rfl|exact .inr rfl|assumption):PS X (.Assign [.Name x pos'] e pos) (Tc te (vZ i)):=by intro pins s σ H D I h;refine wpAny_Assign_Name (bG (he pins s σ H _ I h) λv s1⟨y,H1,I1,r1,q1⟩=>?_) hs;exact iw I1 hN hi hx r1 (λs2 I2=>⟨_,H1,I2,q1⟩) hf
noncomputable def ab2(i:Nat)(te:TE)(ti:TIp):TS:=λD σ H=>∃x,σ[i]?=some (some x)/\te σ H λy H1=>ti x y H1 λz H2=>D.nx (σ.set i (some z)) H2
theorem TQ{i:Nat}{x:Str}{e:Expr}{te:TE}{op:Operator}{ti:TIp}{pos':Pos}(hN:X.N.Nodup)(hi:X.N[i]?=some x)(hx:Loc X.env.scope x)(he:PE X e te)(ho:PIp X op ti)(hf:X.fn x=true\/X.env.scope.names.lookup x=some .local:=by first|exact .inl rfl|exact .inr rfl|assumption):PS X (.AugAssign (.Name x pos') op e pos) (ab2 i te ti):=by
 intro pins s σ H D I h;obtain⟨v,e1,h⟩:=h;obtain⟨m,hn,hl⟩:=I.loc;have vis:VS X.env.scope x:=by rcases hx with k|k;exact .inl k;exact .inr (.inl k)
 obtain⟨u,r,l⟩:=hl i x v hi e1 vis;refine wpAny_AugAssign_Name ?_;have go:wpAny (model X.prog X.w) X.A (eval e X.env) (λw lH=>wpAny (model X.prog X.w) X.A (inplaceOp op u w) (λr AB=>wpAny (model X.prog X.w) X.A (storeName X.env x r) (λ_=>SP X pins D .next) X.xe AB) X.xe lH) X.xe s:=by refine bG (he pins s σ H _ I h) λw s1⟨y,H1,I1,r1,q1⟩=>?_;refine bG (ho pins s1 σ H1 v y u w _ I1 r r1 q1) λz s2⟨zv,H2,I2,r2,q2⟩=>?_;exact iw I2 hN hi hx r2 (λs3 I3=>⟨_,H2,I3,q2⟩) hf
 rcases l with⟨hk,hm⟩|⟨hk,c,hc,xP⟩;·exact wpAny_loadName_local I.ok.kind hk hn hm go
 ·rcases hk with hk|hk;·exact wpAny_loadName_cell I.ok.kind hk hc xP go
  ·rcases hx with k|k;·have :X.env.scope.names.lookup x=some .free:=hk;rw[k]at this;cases this
   ·have :X.env.scope.names.lookup x=some .free:=hk;rw[k]at this;cases this
noncomputable def ipI(f:Int->Int->Int):TIp:=λx y H Q=>∃i j,x= .int i/\y= .int j/\Q (.int (f i j)) H
theorem TC:PIp X .Add (ipI λi j=>i+j):=by intro pins s σ H x y v u Q I r1 r2 h;obtain⟨i,j,e1,e2,q⟩:=h;subst e1;subst e2;obtain⟨t,rfl⟩:=r1;obtain⟨t',rfl⟩:=r2;exact iadd_int ⟨.int _,H,I.tok _,⟨_,rfl⟩,q⟩
end
section
variable{X:Cx}{pos:Pos}
noncomputable def RX(c:TT)(tb:TS):TS:=λD σ H=>∃W:Nat->St->Hp->Prop,(∃m,W m σ H)/\∀m σ H,W m σ H->c σ H λb H1=>if b=true then∃N:St->Hp->Prop,(∀aY H',N aY H'->∃m',m'<m/\W m' aY H')/\tb {D with nx:=N,ct:=N,bk:=D.nx} σ H1 else D.nx σ H1
theorem KH{c:Expr}{body:List Stmt}{tc:TT}{tb:TS}(hp:PassesOwn (model X.prog X.w) X.A X.env X.xe)(hc:PT X c tc)(hb:eM X body tb):PS X (.While c body [] pos) (RX tc tb):=by
 intro pins s σ H D I h;obtain⟨W,⟨m0,w0⟩,turn⟩:=h;refine wpAny_While (codeAny_whileLoop (λn s'=>∃aY H',Inv X pins aY H' s'/\W n aY H') ?_ m0 ⟨σ,H,I,w0⟩);rintro n s1⟨VQ,H1,I1,w1⟩;refine wpAny_passesOwn hp (bG (hc pins s1 VQ H1 _ I1 (turn n VQ H1 w1)) λb s2⟨H2,I2,q2⟩=>?_);cases b with
  |true=>obtain⟨N,hN,q2⟩:=q2;rw[if_pos rfl];refine wpAny_passesOwn hp (bG (hb pins s2 VQ H2 _ I2 q2) λf s3 q3=>?_);cases f with|next=>obtain⟨L7,H3,I3,n3⟩:=q3;obtain⟨m',hm,w3⟩:=hN L7 H3 n3;exact⟨m',hm,L7,H3,I3,w3⟩|cont=>obtain⟨L7,H3,I3,n3⟩:=q3;obtain⟨m',hm,w3⟩:=hN L7 H3 n3;exact⟨m',hm,L7,H3,I3,w3⟩|brk=>exact q3|ret v=>exact q3
  |false=>rw[if_neg Bool.false_ne_true];exact wpAny_execs_nil ⟨VQ,H2,I2,q2⟩
end
structure It where
 go:Nat->Hp->Prop
 Cf:Nat->Hp->V->Hp->Prop
 stop:Nat->Hp->Prop
noncomputable def ku(X:Cx)(pins:List (Addr×Obj))(H:Hp)(b:Addr):Prop:=H b=none/\b≠X.env.locals/\b∉X.fs/\(b∈X.ex\/X.bO.heap.objs.size<=b)/\(∀x c,X.env.cells.lookup x=some c->c≠b)/\∀p∈X.pn++pins,p.1≠b
theorem Inv.NB{X:Cx}{pins:List (Addr×Obj)}{σ:St}{H H':Hp}{s:Shared}{b:Addr}(I:Inv X pins σ H s)(hb:s.heap.objs.size<=b)(hn:H' b=none):ku X pins H' b:=by
 refine⟨hn,Nat.ne_of_gt (Nat.lt_of_lt_of_le I.lt hb),I.aaX hb, .inr (Nat.le_trans I.sz hb),λx c e z=>?_,λp hp z=>?_⟩;·obtain⟨v,q⟩:=I.cell x c e;exact absurd (Nat.lt_of_lt_of_le q.lt (by rw[z];exact hb)) (Nat.lt_irrefl _)
 ·exact absurd (Nat.lt_of_lt_of_le (Heap.lt_size (I.pin p hp).1) (by rw[z];exact hb)) (Nat.lt_irrefl _)
structure Turn(P:Program)(w:World)(K:PySem.W.Frag)(tg:Expr)(J:It)(fp:List Addr)(it:Addr)(tn:Nat->Heap->Prop):Prop where
 mem:it∈fp
 obj:∀i h,tn i h->∀b∈fp,∃o,h.get? b=some o/\∀v,o.data≠ .cell v
 keep:∀i h h',tn i h->(∀b∈fp,∀o,h.get? b=some o->h'.get? b=some o)->tn i h'
 item:∀(X:Cx),X.prog=P->X.w=w->X.K=K->X.calm=true->∀(i:Nat)(pins:List (Addr×Obj))(s:Shared)(σ:St)(H:Hp)(E:Value->Shared->Prop),Inv X pins σ H s->(∀b∈fp,ku X pins H b)->tn i s.heap->J.go i H->wpAny (model P w) X.A (pyNext (.ref it)) (λr s1=>∃u,r=some u/\wpAny (model P w) X.A (letOwnedTupleGo tg (.ref it) u) (λ_ s2=>∃x H',Inv X pins σ H' s2/\RelV x u/\J.Cf i H x H'/\tn (i+1) s2.heap/\∀b∈fp,H' b=none) E s1) E s
 done:∀(X:Cx),X.prog=P->X.w=w->X.K=K->X.calm=true->∀(i:Nat)(pins:List (Addr×Obj))(s:Shared)(σ:St)(H:Hp)(E:Value->Shared->Prop),Inv X pins σ H s->(∀b∈fp,ku X pins H b)->tn i s.heap->J.stop i H->wpAny (model P w) X.A (pyNext (.ref it)) (λr s1=>r=none/\Inv X pins σ H s1) E s
 self:∀(A:Around)(i:Nat)(s:Shared)(Q:Value->Shared->Prop)(E:Value->Shared->Prop),tn i s.heap->Q (.ref it) s->wpAny (model P w) A (pyIter (.ref it)) Q E s
noncomputable abbrev TI:=St->Hp->(It->Hp->Prop)->Prop
noncomputable def PIE(X:Cx)(pins:List (Addr×Obj))(σ:St)(tg:Expr)(R:It->Hp->Prop)(itv:Value)(s2:Shared):Prop:=∃(it:Addr)(fp:List Addr)(tn:Nat->Heap->Prop)(J:It)(H':Hp),itv= .ref it/\Inv X pins σ H' s2/\Turn X.prog X.w X.K tg J fp it tn/\tn 0 s2.heap/\(∀b∈fp,ku X pins H' b)/\R J H'
noncomputable def PI(X:Cx)(tg iter:Expr)(wi:TI):Prop:=∀(pins:List (Addr×Obj))(s:Shared)(σ:St)(H:Hp)(R:It->Hp->Prop),Inv X pins σ H s->wi σ H R->wpAny (model X.prog X.w) X.A (eval iter X.env) (λv s1=>wpAny (model X.prog X.w) X.A (pyIter v) (PIE X pins σ tg R) X.xe s1) X.xe s
theorem La{M:Model}{A:Around}{E:Value->Shared->Prop}{s:Shared}{tg:Expr}{it:Addr}{u:Value}{o:Obj}{n:String}{vs:Array Value}{Q:Unit->Shared->Prop}(ho:s.heap.get? it=some o)(hc:o.cls= .type n)(hd:o.data= .fields vs)(hn:["enumerate","zip","dict_itemiterator","dict_reverseitemiterator","odict_iterator","itertools.zip_longest","itertools.pairwise"].contains n=false)(hQ:Q () s):wpAny M A (letOwnedTupleGo tg (.ref it) u) Q E s:=by unfold letOwnedTupleGo;cases tg<;>first|exact wpAny_pure hQ|(cases u<;>first|exact wpAny_pure hQ|(refine wpAny_bind (wpAny_load ho ?_);rw[hc,hd];show wpAny M A (if(["enumerate","zip","dict_itemiterator","dict_reverseitemiterator","odict_iterator","itertools.zip_longest","itertools.pairwise"].contains n&&vs[0]?==some (rawInt _))=true then _ else _) Q E s;rw[if_neg (by intro h;rw[hn,Bool.false_and]at h;cases h)];exact wpAny_pure hQ))
noncomputable def Xj(K:PySem.W.Frag)(a:Addr):It:=⟨λi H=>∃xs x,bQ K H a xs/\xs[i]?=some x,λi H x H'=>H'=H/\∀xs,bQ K H a xs->xs[i]?=some x,λi H=>∃xs,bQ K H a xs/\xs.length<=i⟩
noncomputable def Itt(K:PySem.W.Frag)(a:Addr):It:=⟨λi H=>∃xs x,bN K H a xs/\xs[i]?=some x,λi H x H'=>H'=H/\∀xs,bN K H a xs->xs[i]?=some x,λi H=>∃xs,bN K H a xs/\xs.length<=i⟩
noncomputable def VB(lo:Int)(n:Nat):It:=⟨λi _=>i<n,λi H x H'=>H'=H/\x= .int (lo+i),λi _=>n<=i⟩
theorem JK{P:Program}{w:World}{K:PySem.W.Frag}{tg:Expr}(a it:Addr):Turn P w K tg (Xj K a) [it] it (λi h=>h.IsListIter it a i)where
 mem:=by simp
 obj:=λi h st b hb=>by
  have e:b=it:=by simpa using hb
  subst e;obtain⟨o,e,c,d⟩:=st;exact⟨o,e,λv z=>by rw[d]at z;cases z⟩
 keep:=λi h h' st k=>st.at λo e=>k it (by simp) o e;item:=by intro X hP hw hK hc i pins s σ H E I hf st hg;subst hP hw hK;obtain⟨xs,x,hq,hx⟩:=hg;obtain⟨aI,rv,p,hz⟩:=I.list hq;obtain⟨u,hu,ru⟩:=rv.get hx;obtain⟨f0,f1,f2,f3,f4,f5⟩:=hf it (by simp);refine wpAny_pyNext_list_item st p.isList (x:=u) (by simpa using hu) λh' QD sb=>?_;have I1:Inv X pins σ H {s with heap:=h'}:=I.turned (t':=s.toks) (λb o hb e=>(sb.2 b hb).trans e) f0 f1 f3 f4 f5;obtain⟨o,e,c,d⟩:=id QD;exact⟨u,rfl,La (s:={s with heap:=h'}) e c d (by decide) ⟨x,H,I1,ru,⟨rfl,λys hy=>by rw[I.jR hy hq];exact hx⟩,QD,λb hb=>(hf b hb).1⟩⟩
 done:=by intro X hP hw hK hc i pins s σ H E I hf st hg;subst hP hw hK;obtain⟨xs,hq,hx⟩:=hg;obtain⟨aI,rv,p,hz⟩:=I.list hq;obtain⟨f0,f1,f2,f3,f4,f5⟩:=hf it (by simp);have hl:=rv.length;exact ji (I.hb hc) (I.Pj hc f3 f5) st p.isList (by simp;omega) λh' eb=>⟨rfl,I.turned (t':=s.toks) (λb o hb e=>eb b o hb e) f0 f1 f3 f4 f5⟩
 self:=λ_ _ _ _ _ st h=>wpAny_pyIter_listiter st h
theorem Dh{P:Program}{w:World}{K:PySem.W.Frag}{tg:Expr}(a it:Addr):Turn P w K tg (Itt K a) [it] it (λi h=>h.IsTupleIter it a i)where
 mem:=by simp
 obj:=λi h st b hb=>by
  have e:b=it:=by simpa using hb
  subst e;obtain⟨o,e,c,d⟩:=st;exact⟨o,e,λv z=>by rw[d]at z;cases z⟩
 keep:=λi h h' st k=>st.at λo e=>k it (by simp) o e;item:=by intro X hP hw hK hc i pins s σ H E I hf st hg;subst hP hw hK;obtain⟨xs,x,hq,hx⟩:=hg;obtain⟨aI,rv,p,hz⟩:=I.tuple hq;obtain⟨u,hu,ru⟩:=rv.get hx;obtain⟨f0,f1,f2,f3,f4,f5⟩:=hf it (by simp);refine wpAny_pyNext_tuple_item st (show s.heap.IsTuple a aI.toArray from p) (x:=u) (by simpa using hu) λh' QD sb=>?_;have I1:Inv X pins σ H {s with heap:=h'}:=I.turned (t':=s.toks) (λb o hb e=>(sb.2 b hb).trans e) f0 f1 f3 f4 f5;obtain⟨o,e,c,d⟩:=id QD;exact⟨u,rfl,La (s:={s with heap:=h'}) e c d (by decide) ⟨x,H,I1,ru,⟨rfl,λys hy=>by rw[I.JD hy hq];exact hx⟩,QD,λb hb=>(hf b hb).1⟩⟩
 done:=by intro X hP hw hK hc i pins s σ H E I hf st hg;subst hP hw hK;obtain⟨xs,hq,hx⟩:=hg;obtain⟨aI,rv,p,hz⟩:=I.tuple hq;obtain⟨f0,f1,f2,f3,f4,f5⟩:=hf it (by simp);have hl:=rv.length;exact next_tuple_end (I.hb hc) (I.Pj hc f3 f5) st (show s.heap.IsTuple a aI.toArray from p) (by simp;omega) λh' eb=>⟨rfl,I.turned (t':=s.toks) (λb o hb e=>eb b o hb e) f0 f1 f3 f4 f5⟩
 self:=λ_ _ _ _ _ st h=>wpAny_pyIter_tupleiter st h
theorem CO{P:Program}{w:World}{K:PySem.W.Frag}{tg:Expr}(it:Addr)(lo:Int)(n:Nat):Turn P w K tg (VB lo n) [it] it (λi h=>IsRangeIter h it (lo+(i:Nat)*1) ((n:Int)-(i:Nat)) 1)where
 mem:=by simp
 obj:=λi h st b hb=>by
  have e:b=it:=by simpa using hb
  subst e;exact⟨_,st,λv z=>by have z':Data.fields _=Data.cell v:=z;cases z'⟩
 keep:=λi h h' st k=>k it (by simp) _ st;item:=by intro X hP hw hK hc i pins s σ H E I hf st hg;subst hP hw hK;obtain⟨f0,f1,f2,f3,f4,f5⟩:=hf it (by simp);refine DG hg st λv h' tk hv QD kk=>?_;obtain⟨t,rfl⟩:=hv;have I1:Inv X pins σ H {s with heap:=h',toks:=tk}:=I.turned (λb o hb e=>kk b o (by simpa using hb) e) f0 f1 f3 f4 f5;refine⟨_,rfl,La (s:={s with heap:=h',toks:=tk}) (n:="range_iterator") QD rfl rfl (by decide) ⟨.int (lo+i),H,I1,⟨t,?_⟩,⟨rfl,rfl⟩,QD,λb hb=>(hf b hb).1⟩⟩;rw[Int.mul_one]
 done:=by intro X hP hw hK hc i pins s σ H E I hf st hg;subst hP hw hK;obtain⟨f0,f1,f2,f3,f4,f5⟩:=hf it (by simp);exact vA (I.hb hc) st (by have :n<=i:=hg;omega) λh' eb=>⟨rfl,I.turned (t':=s.toks) (λb o hb e=>eb b o hb e) f0 f1 f3 f4 f5⟩
 self:=λ_ _ _ _ _ st h=>wpAny_pyIter_rangeiter st h
end L2
namespace L2
open PySem PySem.Spec PyProof.Rows
section
variable{X:Cx}{tg:Expr}
noncomputable def Xw(K:PySem.W.Frag)(tl:TE):TI:=λσ H R=>tl σ H λx H1=>∃a,x= .ref a/\(∃xs,bQ K H1 a xs)/\R (Xj K a) H1
noncomputable def aaq(K:PySem.W.Frag)(tl:TE):TI:=λσ H R=>tl σ H λx H1=>∃a,x= .ref a/\(∃xs,bN K H1 a xs)/\R (Itt K a) H1
theorem kR{l:Expr}{tl:TE}(hl:PE X l tl):PI X tg l (Xw X.K tl):=by
 intro pins s σ H R I h;refine bG (hl pins s σ H _ I h) λv s1⟨x,H1,I1,r1,q1⟩=>?_;obtain⟨a,e,⟨xs,hq⟩,q⟩:=q1;subst e;cases r1;obtain⟨aI,rv,p,hz⟩:=I1.list hq;refine wpAny_pyIter_list p.isList ?_;refine⟨s1.heap.objs.size,[s1.heap.objs.size],_,_,H1,rfl,I1.kept (t':=s1.toks) λb o e=>Heap.get?_push_of_some _ e,JK a _,⟨_,Heap.get?_push_size _ rfl,rfl,rfl⟩,λb hb=>?_,q⟩;have e:b=s1.heap.objs.size:=by simpa using hb
 subst e;exact I1.NB (Nat.le_refl _) (I1.bJ.fresh (Nat.le_refl _))
theorem DH{l:Expr}{tl:TE}(hl:PE X l tl):PI X tg l (aaq X.K tl):=by
 intro pins s σ H R I h;refine bG (hl pins s σ H _ I h) λv s1⟨x,H1,I1,r1,q1⟩=>?_;obtain⟨a,e,⟨xs,hq⟩,q⟩:=q1;subst e;cases r1;obtain⟨aI,rv,p,hz⟩:=I1.tuple hq;refine wpAny_pyIter_tuple (show s1.heap.IsTuple a aI.toArray from p) ?_;refine⟨s1.heap.objs.size,[s1.heap.objs.size],_,_,H1,rfl,I1.kept (t':=s1.toks) λb o e=>Heap.get?_push_of_some _ e,Dh a _,⟨_,Heap.get?_push_size _ rfl,rfl,rfl⟩,λb hb=>?_,q⟩;have e:b=s1.heap.objs.size:=by simpa using hb
 subst e;exact I1.NB (Nat.le_refl _) (I1.bJ.fresh (Nat.le_refl _))
theorem MW{pins:List (Addr×Obj)}{σ:St}{H:Hp}{s:Shared}{R:It->Hp->Prop}{E:Value->Shared->Prop}{lo hi:Int}{t u v:Tok}{tk:Nat}(I:Inv X pins σ H s)(h1:-(2^62)<=lo)(h2:lo<2^62)(h3:-(2^62)<=hi)(h4:hi<2^62)(q:R (VB lo (hi-lo).toNat) H):wpAny (model X.prog X.w) X.A (pyIter (.ref s.heap.objs.size)) (PIE X pins σ tg R) E {s with heap:=s.heap.push {cls:= .type "range",data:= .fields #[.int lo t, .int hi u, .int 1 v]},toks:=tk}:=by
 refine wpAny_pyIter_range (IsRange.new ..) (small_one h1 h2 h3 h4) ?_;have I1:Inv X pins σ H {s with heap:=s.heap.push {cls:= .type "range",data:= .fields #[.int lo t, .int hi u, .int 1 v]},toks:=tk}:=I.kept λb o e=>Heap.get?_push_of_some _ e;refine⟨(s.heap.push {cls:= .type "range",data:= .fields #[.int lo t, .int hi u, .int 1 v]}).objs.size,[(s.heap.push {cls:= .type "range",data:= .fields #[.int lo t, .int hi u, .int 1 v]}).objs.size],_,_,H,rfl,I1.kept (t':=tk) λb o e=>Heap.get?_push_of_some _ e,CO _ lo (hi-lo).toNat,?_,λb hb=>?_,q⟩
 ·have e1:lo+((0:Nat):Int)*1=lo:=by simp
  have e2:(((hi-lo).toNat:Nat):Int)-((0:Nat):Int)=Builtin.Range.rangeSize lo hi 1:=by rw[rangeSize_one];split<;>omega
  show IsRangeIter _ _ (lo+((0:Nat):Int)*1) ((((hi-lo).toNat:Nat):Int)-((0:Nat):Int)) 1;rw[e1,e2];exact Heap.get?_push_size _ rfl
 ·have e:b=(s.heap.push {cls:= .type "range",data:= .fields #[.int lo t, .int hi u, .int 1 v]}).objs.size:=by simpa using hb
  subst e;exact I1.NB (Nat.le_refl _) (I1.bJ.fresh (Nat.le_refl _))
noncomputable def Yy(ta:TA):TI:=λσ H R=>ta σ H λvs H1=>∃j:Int,vs=[.int j]/\-(2^62)<=j/\j<2^62/\R (VB 0 j.toNat) H1
theorem fZ{a:Expr}{ta:TA}{p pos:Pos}(hg:Gl X "range")(hm:X.mg "range"=none)(ha:PA X [a] ta)(hs:starEach [a] X.env=[(false,eval a X.env)]:=by rfl):PI X tg (.Call (.Name "range" p) [a] [] pos) (Yy ta):=by intro pins s σ H R I h;refine Call_ (jr I hg hm boot_range (PyProof.Rows.callWith_type1 (bG (ha pos pins s σ H _ I h) λus s1⟨vs,H1,I1,r1,q1⟩=>?_) hs rfl));obtain⟨j,e,q1,q2,q⟩:=q1;subst e;cases r1 with|cons r rr=>cases rr;obtain⟨t,rfl⟩:=r;exact call_range_1 (MW I1 (by omega) (by omega) q1 q2 (by simpa using q))
noncomputable def abp(wi:TI)(g:TG)(tb:TS):TS:=λD σ H=>wi σ H λJ H1=>∃W:Nat->Nat->St->Hp->Prop,(∃m,W 0 m σ H1)/\∀i m σ H,W i m σ H->(J.stop i H/\D.nx σ H)\/(J.go i H/\∃N:St->Hp->Prop,(∀aY H',N aY H'->∃m',m'<m/\W (i+1) m' aY H')/\∀x H',J.Cf i H x H'->g x σ H' λJN H2=>tb {D with nx:=N,ct:=N,bk:=D.nx} JN H2)
noncomputable def l6(fp:List Addr)(h:Heap):List (Addr×Obj):=fp.filterMap λb=>(h.get? b).map λo=>(b,o)
theorem d_{fp:List Addr}{h:Heap}{b:Addr}{o:Obj}(hb:b∈fp)(e:h.get? b=some o):(b,o)∈l6 fp h:=List.mem_filterMap.mpr ⟨b,hb,by rw[e];rfl⟩
theorem IC{fp:List Addr}{h:Heap}{p:Addr×Obj}(hp:p∈l6 fp h):p.1∈fp/\h.get? p.1=some p.2:=by obtain⟨b,hb,e⟩:=List.mem_filterMap.mp hp;cases q:h.get? b with|none=>rw[q]at e;cases e|some o=>rw[q]at e;have e':(b,o)=p:=Option.some.inj e;subst e';exact⟨hb,q⟩
theorem Inv.pinned{pins:List (Addr×Obj)}{σ:St}{H:Hp}{s:Shared}{fp:List Addr}(I:Inv X pins σ H s)(hf:∀b∈fp,ku X pins H b)(ho:∀b∈fp,∃o,s.heap.get? b=some o/\∀v,o.data≠ .cell v):Inv X (pins++l6 fp s.heap) σ H s:=I.tT λp hp=>(List.mem_append.mp hp).elim (λz=>I.pin p (List.mem_append_right _ z)) λz=>by obtain⟨hb,e⟩:=IC z;obtain⟨f0,f1,f2,_⟩:=hf p.1 hb;obtain⟨o,e',d⟩:=ho p.1 hb;rw[e]at e';cases e';exact⟨e,f0,f1,f2,d⟩
theorem Inv.iA{pins pl:List (Addr×Obj)}{σ:St}{H:Hp}{s:Shared}(I:Inv X (pins++pl) σ H s):Inv X pins σ H s:=I.tT λp hp=>I.pin p (List.mem_append_right _ (List.mem_append_left _ hp))
theorem fJ{iter:Expr}{body:List Stmt}{wi:TI}{g:TG}{tb:TS}{pos:Pos}(hp:PassesOwn (model X.prog X.w) X.A X.env X.xe)(hc:X.calm=true)(hi:PI X tg iter wi)(hg:PG X tg g)(hb:eM X body tb)(hs:∀x,foldedSetIterable iter X.env x=pure x:=by intro _;rfl):PS X (.For tg iter body [] pos) (abp wi g tb):=by
 intro pins s σ H D I h;refine wpAny_For (bG (hi pins s σ H _ I h) λv s1 h1=>bG h1 λitv s2 h2=>?_) hs;obtain⟨it,fp,tn,J,H2,e,I2,T,TU,f2,W,⟨m0,w0⟩,turn⟩:=h2;subst e;have vN:∀{H':Hp},(∀b∈fp,H' b=none)->∀b∈fp,ku X pins H' b:=λhn b hb=>⟨hn b hb,(f2 b hb).2⟩;refine codeAny_forLoop_any (λn s'=>∃i aY H',Inv X pins aY H' s'/\tn i s'.heap/\(∀b∈fp,H' b=none)/\W i n aY H') ?_ m0 ⟨0,σ,H2,I2,TU,λb hb=>(f2 b hb).1,w0⟩;rintro n s3⟨i,L7,H3,I3,st3,fr3,w3⟩;rcases turn i n L7 H3 w3 with⟨stop,qn⟩|⟨go,N,hN,step⟩;·refine wpAny_passesOwn hp (bG (T.done X rfl rfl rfl hc i pins s3 L7 H3 X.xe I3 (vN fr3) st3 stop) λr s4⟨hr,I4⟩=>?_);subst hr;exact wpAny_execs_nil ⟨L7,H3,I4,qn⟩
 ·refine wpAny_passesOwn hp (bG (T.item X rfl rfl rfl hc i pins s3 L7 H3 X.xe I3 (vN fr3) st3 go) λr s4⟨u,hr,h4⟩=>?_);subst hr;refine wpAny_passesOwn hp (bG h4 λ_ s5⟨x,H5,I5,r5,y5,Pu,UL⟩=>?_);have I5':=I5.pinned (vN UL) (T.obj _ _ Pu);refine wpAny_passesOwn hp (bG (hg _ s5 L7 H5 x u _ I5' r5 (step x H5 y5)) λ_ s6⟨σ6,H6,I6,q6⟩=>?_);refine wpAny_passesOwn hp (bG (hb _ s6 σ6 H6 _ I6 q6) λf s7 q7=>?_);have again:∀{K5:St}{H7:Hp},Inv X (pins++l6 fp s5.heap) K5 H7 s7->N K5 H7->∃m,m<n/\∃i aY H',Inv X pins aY H' s7/\tn i s7.heap/\(∀b∈fp,H' b=none)/\W i m aY H':=λ{K5 H7}I7 n7=>by obtain⟨m',hm,w7⟩:=hN K5 H7 n7;refine⟨m',hm,i+1,K5,H7,I7.iA,T.keep _ _ _ Pu λb hb o e=>(I7.pin (b,o) (List.mem_append_right _ (List.mem_append_right _ (d_ hb e)))).1,λb hb=>?_,w7⟩;obtain⟨o,e,d⟩:=T.obj _ _ Pu b hb;exact(I7.pin (b,o) (List.mem_append_right _ (List.mem_append_right _ (d_ hb e)))).2.1
  cases f with|next=>obtain⟨K5,H7,I7,n7⟩:=q7;exact again I7 n7|cont=>obtain⟨K5,H7,I7,n7⟩:=q7;exact again I7 n7|brk=>obtain⟨K5,H7,I7,q7⟩:=q7;exact⟨K5,H7,I7.iA,q7⟩|ret v=>obtain⟨x7,K5,H7,I7,r7,q7⟩:=q7;exact⟨x7,K5,H7,I7.iA,r7,q7⟩
end
theorem Mj{K:PySem.W.Frag}{a:Addr}{xs:List V}{g:TG}{tb:TS}{D:Ends}{σ:St}{H:Hp}(Pv:Nat->St->Hp->Prop)(h0:Pv 0 σ H)(hl:∀i σ H,i<=xs.length->Pv i σ H->bQ K H a xs)(hs:∀i x σ H,xs[i]?=some x->Pv i σ H->g x σ H λJN H2=>tb {D with nx:=Pv (i+1),ct:=Pv (i+1),bk:=D.nx} JN H2)(hd:∀σ H,Pv xs.length σ H->D.nx σ H):∃W:Nat->Nat->St->Hp->Prop,(∃m,W 0 m σ H)/\∀i m σ H,W i m σ H->((Xj K a).stop i H/\D.nx σ H)\/((Xj K a).go i H/\∃N:St->Hp->Prop,(∀aY H',N aY H'->∃m',m'<m/\W (i+1) m' aY H')/\∀x H',(Xj K a).Cf i H x H'->g x σ H' λJN H2=>tb {D with nx:=N,ct:=N,bk:=D.nx} JN H2):=by
 refine⟨λi m σ H=>m=xs.length-i/\i<=xs.length/\Pv i σ H,⟨xs.length,by simp,Nat.zero_le _,h0⟩,?_⟩;rintro i m σ H⟨rfl,hi,p⟩;have q:=hl i σ H hi p;by_cases m9:i<xs.length;·refine .inr ⟨⟨xs,xs[i],q,by simp[m9]⟩,Pv (i+1),λaY H' p'=>⟨xs.length-(i+1),by omega,rfl,m9,p'⟩,λx H' y=>?_⟩;obtain⟨e,y⟩:=y;subst e;exact hs i x σ _ (y xs q) p
 ·have e:i=xs.length:=by omega
  subst e;exact .inl ⟨⟨xs,q,Nat.le_refl _⟩,hd σ H p⟩
theorem IV{lo:Int}{n:Nat}{g:TG}{tb:TS}{D:Ends}{σ:St}{H:Hp}(Pv:Nat->St->Hp->Prop)(h0:Pv 0 σ H)(hs:∀i σ H,i<n->Pv i σ H->g (.int (lo+i)) σ H λJN H2=>tb {D with nx:=Pv (i+1),ct:=Pv (i+1),bk:=D.nx} JN H2)(hd:∀σ H,Pv n σ H->D.nx σ H):∃W:Nat->Nat->St->Hp->Prop,(∃m,W 0 m σ H)/\∀i m σ H,W i m σ H->((VB lo n).stop i H/\D.nx σ H)\/((VB lo n).go i H/\∃N:St->Hp->Prop,(∀aY H',N aY H'->∃m',m'<m/\W (i+1) m' aY H')/\∀x H',(VB lo n).Cf i H x H'->g x σ H' λJN H2=>tb {D with nx:=N,ct:=N,bk:=D.nx} JN H2):=by
 refine⟨λi m σ H=>m=n-i/\i<=n/\Pv i σ H,⟨n,by simp,Nat.zero_le _,h0⟩,?_⟩;rintro i m σ H⟨rfl,hi,p⟩;by_cases m9:i<n;·refine .inr ⟨m9,Pv (i+1),λaY H' p'=>⟨n-(i+1),by omega,rfl,m9,p'⟩,λx H' y=>?_⟩;obtain⟨e,y⟩:=y;subst e y;exact hs i σ _ m9 p
 ·have e:i=n:=by omega
  subst e;exact .inl ⟨Nat.le_refl _,hd σ H p⟩
end L2
namespace L2
open PySem PySem.Spec PyProof.Rows
noncomputable abbrev R2:=V->V->Hp->VK->Prop
noncomputable def jB(X:Cx)(f:Value->Value->Sem Value)(r:R2):Prop:=∀(pins:List (Addr×Obj))(s:Shared)(σ:St)(H:Hp)(x y:V)(v u:Value)(Q:VK),Inv X pins σ H s->RelV x v->RelV y u->r x y H Q->wpAny (model X.prog X.w) X.A (f v u) (EP X pins σ Q) X.xe s
noncomputable def UnR(X:Cx)(f:Value->Sem Value)(r:V->Hp->VK->Prop):Prop:=∀(pins:List (Addr×Obj))(s:Shared)(σ:St)(H:Hp)(x:V)(v:Value)(Q:VK),Inv X pins σ H s->RelV x v->r x H Q->wpAny (model X.prog X.w) X.A (f v) (EP X pins σ Q) X.xe s
noncomputable def jl(X:Cx)(f:Value)(r:List V->Hp->VK->Prop):Prop:=∀(pins:List (Addr×Obj))(s:Shared)(σ:St)(H:Hp)(xs:List V)(us:List Value)(Q:VK),Inv X pins σ H s->Vals xs us->r xs H Q->wpAny (model X.prog X.w) X.A (call f us) (EP X pins σ Q) X.xe s
noncomputable def Yg(r:R2)(ta tb:TE):TE:=λσ H Q=>ta σ H λx H1=>tb σ H1 λy H2=>r x y H2 Q
noncomputable def tUn(r:V->Hp->VK->Prop)(ta:TE):TE:=λσ H Q=>ta σ H λx H1=>r x H1 Q
noncomputable def rI(C:Int->Int->Prop)(g:Int->Int->V):R2:=λx y H Q=>∃i j,x= .int i/\y= .int j/\C i j/\Q (g i j) H
noncomputable def Q1(g:Int->Int->V):R2:=λx y H Q=>∃i j,x= .int i/\y= .int j/\Q (g i j) H
noncomputable def rU(g:Int->V):V->Hp->VK->Prop:=λx H Q=>∃i,x= .int i/\Q (g i) H
section
variable{X:Cx}{a b c:Expr}{ta tb tc:TE}{pos:Pos}
theorem TF(ha:PE X a ta)(hb:PE X b tb){pins:List (Addr×Obj)}{s:Shared}{σ:St}{H:Hp}{R:V->V->Hp->Prop}(I:Inv X pins σ H s)(h:ta σ H λx H1=>tb σ H1 λy H2=>R x y H2){Q:Value->Shared->Prop}{f:Value->Value->Sem Value}(hf:∀v u s2 x y H2,Inv X pins σ H2 s2->RelV x v->RelV y u->R x y H2->wpAny (model X.prog X.w) X.A (f v u) Q X.xe s2):wpAny (model X.prog X.w) X.A (eval a X.env) (λv bK=>wpAny (model X.prog X.w) X.A (eval b X.env) (λu lH=>wpAny (model X.prog X.w) X.A (f v u) Q X.xe lH) X.xe bK) X.xe s:=by refine bG (ha pins s σ H _ I h) λv s1⟨x,H1,I1,r1,q1⟩=>?_;refine bG (hb pins s1 σ H1 _ I1 q1) λu s2⟨y,H2,I2,r2,q2⟩=>?_;exact hf v u s2 x y H2 I2 r1 r2 q2
theorem bh{op:Operator}{r:R2}(ho:jB X (binaryOp op) r)(ha:PE X a ta)(hb:PE X b tb):PE X (.BinOp a op b pos) (Yg r ta tb):=by intro pins s σ H Q I h;exact wpAny_BinOp (TF ha hb I h λv u s2 x y H2 I2 rx ry q=>ho pins s2 σ H2 x y v u Q I2 rx ry q)
theorem Lo{op:UnaryOp}{r:V->Hp->VK->Prop}(ho:UnR X (unaryOp op) r)(ha:PE X a ta):PE X (.UnaryOp op a pos) (tUn r ta):=by intro pins s σ H Q I h;exact UnaryOp_ (bG (ha pins s σ H _ I h) λv s1⟨x,H1,I1,r1,q1⟩=>ho pins s1 σ H1 x v Q I1 r1 q1)
theorem opI{f:Value->Value->Sem Value}{C:Int->Int->Prop}{g:Int->Int->Int}(rule:∀(i j:Int)(t u:Tok)(s:Shared)(Q:Value->Shared->Prop)(E:Value->Shared->Prop),C i j->Q (.int (g i j) s.toks) {s with toks:=s.toks+1}->wpAny (model X.prog X.w) X.A (f (.int i t) (.int j u)) Q E s):jB X f (rI C λi j=> .int (g i j)):=by intro pins s σ H x y v u Q I rx ry h;obtain⟨i,j,rfl,rfl,hc,q⟩:=h;obtain⟨t,rfl⟩:=rx;obtain⟨t',rfl⟩:=ry;exact rule i j t t' s _ _ hc ⟨.int (g i j),H,I.tok _,⟨_,rfl⟩,q⟩
theorem ZP{f:Value->Value->Sem Value}{g:Int->Int->Int}(rule:∀(i j:Int)(t u:Tok)(s:Shared)(Q:Value->Shared->Prop)(E:Value->Shared->Prop),Q (.int (g i j) s.toks) {s with toks:=s.toks+1}->wpAny (model X.prog X.w) X.A (f (.int i t) (.int j u)) Q E s):jB X f (Q1 λi j=> .int (g i j)):=by intro pins s σ H x y v u Q I rx ry h;obtain⟨i,j,rfl,rfl,q⟩:=h;obtain⟨t,rfl⟩:=rx;obtain⟨t',rfl⟩:=ry;exact rule i j t t' s _ _ ⟨.int (g i j),H,I.tok _,⟨_,rfl⟩,q⟩
theorem PM{f:Value->Value->Sem Value}{g:Int->Int->Bool}(rule:∀(i j:Int)(t u:Tok)(s:Shared)(Q:Value->Shared->Prop)(E:Value->Shared->Prop),Q (.bool (g i j)) s->wpAny (model X.prog X.w) X.A (f (.int i t) (.int j u)) Q E s):jB X f (Q1 λi j=> .bl (g i j)):=by intro pins s σ H x y v u Q I rx ry h;obtain⟨i,j,rfl,rfl,q⟩:=h;obtain⟨t,rfl⟩:=rx;obtain⟨t',rfl⟩:=ry;exact rule i j t t' s _ _ ⟨.bl (g i j),H,I,rfl,q⟩
noncomputable def aa3(i j:Int):Prop:=0<j/\j<1073741824
noncomputable def abi(i j:Int):Prop:=0<=j/\j<=1000000/\i.natAbs<2^64
noncomputable def U6(i j:Int):Prop:=(-(2^64)<i/\i<2^64)\/(-(2^64)<j/\j<2^64)
theorem U6.ok{i j:Int}(h:U6 i j):IntMulOk i j:=by
 rcases h with⟨h1,h2⟩|⟨h1,h2⟩;·exact .of_left (intBits_le_64 h1 h2)
 ·exact .of_right (intBits_le_64 h1 h2)
theorem cP:jB X (binaryOp .Add) (Q1 λi j=> .int (i+j)):=ZP λ_ _ _ _ _ _ _ q=>add_int q
theorem fL:jB X (binaryOp .Sub) (Q1 λi j=> .int (i-j)):=ZP λ_ _ _ _ _ _ _ q=>sub_int q
theorem z_:jB X (binaryOp .Mult) (rI U6 λi j=> .int (i*j)):=opI λ_ _ _ _ _ _ _ hc q=>mul_int q hc.ok
theorem ym:jB X (binaryOp .FloorDiv) (rI aa3 λi j=> .int (i/j)):=opI λi j _ _ _ _ _ hc q=>by have h1:(0:Int)<j:=hc.1;have h2:j<1073741824:=hc.2;exact floordiv_int (by omega) (by rw[Int.fdiv_eq_ediv_of_nonneg i (by omega)];exact q) (.inl (PyProof.noPylong_small (by omega)))
theorem lT:jB X (binaryOp .Mod) (rI (λ_ j=>0<j) λi j=> .int (i%j)):=opI λi j _ _ _ _ _ hc q=>by have h1:(0:Int)<j:=hc;exact mod_int' (by omega) (by rw[Int.fmod_eq_emod_of_nonneg i (by omega)];exact q)
theorem UE:jB X (binaryOp .Pow) (rI abi λi j=> .int (i^j.toNat)):=opI λ_ _ _ _ _ _ _ hc q=>pow_int_small hc.1 hc.2.1 hc.2.2 q
theorem unI{f:Value->Sem Value}{g:Int->Int}(rule:∀(i:Int)(t:Tok)(s:Shared)(Q:Value->Shared->Prop)(E:Value->Shared->Prop),Q (.int (g i) s.toks) {s with toks:=s.toks+1}->wpAny (model X.prog X.w) X.A (f (.int i t)) Q E s):UnR X f (rU λi=> .int (g i)):=by intro pins s σ H x v Q I rx h;obtain⟨i,rfl,q⟩:=h;obtain⟨t,rfl⟩:=rx;exact rule i t s _ _ ⟨.int (g i),H,I.tok _,⟨_,rfl⟩,q⟩
theorem CH:UnR X (unaryOp .USub) (rU λi=> .int (-i)):=unI λ_ _ _ _ _ q=>neg_int q
end
noncomputable def TR:V->V->Bool| .ba, .ba=>true| .ba, .int _=>true| .int _, .ba=>true| .ba, .bl _=>true| .bl _, .ba=>true| .ba, .str _=>true| .str _, .ba=>true| .int _, .int _=>true| .bl _, .bl _=>true| .str _, .str _=>true| .J6 _, .J6 _=>true| .int _, .str _=>true| .str _, .int _=>true| .bl _, .str _=>true| .str _, .bl _=>true|_,_=>false
noncomputable def rEq:R2:=λx y H Q=>TR x y=true/\Q (.bl (decide (x=y))) H
noncomputable def rNe:R2:=λx y H Q=>TR x y=true/\Q (.bl (!decide (x=y))) H
theorem G0{i j:Int}:decide (V.int i=V.int j)=(i==j):=by rw[Bool.eq_iff_iff];simp
theorem Kw{i j:Bool}:decide (V.bl i=V.bl j)=(i==j):=by rw[Bool.eq_iff_iff];simp
theorem Er{i j:Str}:decide (V.str i=V.str j)=(i==j):=by rw[Bool.eq_iff_iff];simp
theorem Ed{i j:Array UInt8}:decide (V.J6 i=V.J6 j)=(i.toList==j.toList):=by rw[Bool.eq_iff_iff];cases i;cases j;simp
section
variable{X:Cx}{a b c:Expr}{ta tb tc:TE}{pos:Pos}
theorem bw{pins:List (Addr×Obj)}{σ:St}{H:Hp}{s:Shared}{Q:VK}{k k':Bool}(I:Inv X pins σ H s)(q:Q (.bl k) H)(e:k=k'):EP X pins σ Q (.bool k') s:=by subst e;exact⟨.bl k,H,I,rfl,q⟩
theorem cj:jB X (compareOp .Eq) rEq:=by
 intro pins s σ H x y v u Q I rx ry h;obtain⟨hs,q⟩:=h;cases x with
  |ba=>cases rx;cases y with|ba=>cases ry;exact PySem.EqNone.eq_none_none (bw I q (by simp))|bl j=>cases ry;exact PySem.EqNone.eq_none_bool (bw I q (by simp))|int j=>obtain⟨t',rfl⟩:=ry;exact PySem.EqNone.eq_none_int (bw I q (by simp))|str j=>obtain⟨t',rfl⟩:=ry;exact PySem.EqNone.eq_none_str (bw I q (by simp))|_=>exact absurd (show false=true from hs) Bool.false_ne_true
  |bl i=>cases rx;cases y with|ba=>cases ry;exact PySem.EqNone.eq_bool_none (bw I q (by simp))|bl j=>cases ry;exact eq_bool (bw I q Kw)|str j=>obtain⟨t',rfl⟩:=ry;exact PySem.EqMixed.eq_bool_str (bw I q (by simp))|_=>exact absurd (show false=true from hs) Bool.false_ne_true
  |int i=>obtain⟨t,rfl⟩:=rx;cases y with|ba=>cases ry;exact PySem.EqNone.eq_int_none (bw I q (by simp))|int j=>obtain⟨t',rfl⟩:=ry;exact eq_int (bw I q G0)|str j=>obtain⟨t',rfl⟩:=ry;exact PySem.EqMixed.eq_int_str (bw I q (by simp))|_=>exact absurd (show false=true from hs) Bool.false_ne_true
  |str i=>obtain⟨t,rfl⟩:=rx;cases y with|ba=>cases ry;exact PySem.EqNone.eq_str_none (bw I q (by simp))|bl j=>cases ry;exact PySem.EqMixed.eq_str_bool (bw I q (by simp))|int j=>obtain⟨t',rfl⟩:=ry;exact PySem.EqMixed.eq_str_int (bw I q (by simp))|str j=>obtain⟨t',rfl⟩:=ry;exact eq_str (bw I q Er)|_=>exact absurd (show false=true from hs) Bool.false_ne_true
  |J6 i=>obtain⟨t,rfl⟩:=rx;cases y with|J6 j=>obtain⟨t',rfl⟩:=ry;exact PySem.W.eq_bytes (bw I q Ed)|_=>exact absurd (show false=true from hs) Bool.false_ne_true
  |_=>cases y<;>exact absurd (show false=true from hs) Bool.false_ne_true
theorem Q9:jB X (compareOp .NotEq) rNe:=by
 intro pins s σ H x y v u Q I rx ry h;obtain⟨hs,q⟩:=h;cases x with
  |ba=>cases rx;cases y with|ba=>cases ry;exact PySem.EqNone.ne_none_none (bw I q (by simp))|bl j=>cases ry;exact PySem.EqNone.ne_none_bool (bw I q (by simp))|int j=>obtain⟨t',rfl⟩:=ry;exact PySem.EqNone.ne_none_int (bw I q (by simp))|str j=>obtain⟨t',rfl⟩:=ry;exact PySem.EqNone.ne_none_str (bw I q (by simp))|_=>exact absurd (show false=true from hs) Bool.false_ne_true
  |bl i=>cases rx;cases y with|ba=>cases ry;exact PySem.EqNone.ne_bool_none (bw I q (by simp))|bl j=>cases ry;exact ne_bool (bw I q (congrArg not Kw))|str j=>obtain⟨t',rfl⟩:=ry;exact PySem.EqMixed.ne_bool_str (bw I q (by simp))|_=>exact absurd (show false=true from hs) Bool.false_ne_true
  |int i=>obtain⟨t,rfl⟩:=rx;cases y with|ba=>cases ry;exact PySem.EqNone.ne_int_none (bw I q (by simp))|int j=>obtain⟨t',rfl⟩:=ry;exact ne_int (bw I q (congrArg not G0))|str j=>obtain⟨t',rfl⟩:=ry;exact PySem.EqMixed.ne_int_str (bw I q (by simp))|_=>exact absurd (show false=true from hs) Bool.false_ne_true
  |str i=>obtain⟨t,rfl⟩:=rx;cases y with|ba=>cases ry;exact PySem.EqNone.ne_str_none (bw I q (by simp))|bl j=>cases ry;exact PySem.EqMixed.ne_str_bool (bw I q (by simp))|int j=>obtain⟨t',rfl⟩:=ry;exact PySem.EqMixed.ne_str_int (bw I q (by simp))|str j=>obtain⟨t',rfl⟩:=ry;exact ne_str (bw I q (congrArg not Er))|_=>exact absurd (show false=true from hs) Bool.false_ne_true
  |J6 i=>obtain⟨t,rfl⟩:=rx;cases y with|J6 j=>obtain⟨t',rfl⟩:=ry;exact PySem.W.ne_bytes (bw I q (congrArg not Ed))|_=>exact absurd (show false=true from hs) Bool.false_ne_true
  |_=>cases y<;>exact absurd (show false=true from hs) Bool.false_ne_true
theorem ZT:jB X (compareOp .Lt) (Q1 λi j=> .bl (decide (i<j))):=PM λ_ _ _ _ _ _ _ q=>lt_int q
theorem RE:jB X (compareOp .LtE) (Q1 λi j=> .bl (decide (i<=j))):=PM λ_ _ _ _ _ _ _ q=>le_int q
theorem mQ:jB X (compareOp .Gt) (Q1 λi j=> .bl (decide (j<i))):=PM λ_ _ _ _ _ _ _ q=>gt_int q
theorem MC:jB X (compareOp .GtE) (Q1 λi j=> .bl (decide (j<=i))):=PM λ_ _ _ _ _ _ _ q=>ge_int q
theorem Sk:jB X (compareOp .Is) (λx y H Q=>y= .ba/\Q (.bl (decide (x= .ba))) H):=by intro pins s σ H x y v u Q I rx ry h;obtain⟨rfl,q⟩:=h;cases ry;refine is_none_gen (bw I q ?_);cases x<;>first|(cases rx;rfl)|(obtain⟨t,rfl⟩:=rx;rfl)
theorem ye:jB X (compareOp .IsNot) (λx y H Q=>y= .ba/\Q (.bl (!decide (x= .ba))) H):=by intro pins s σ H x y v u Q I rx ry h;obtain⟨rfl,q⟩:=h;cases ry;refine isnot_none_gen (bw I q ?_);cases x<;>first|(cases rx;rfl)|(obtain⟨t,rfl⟩:=rx;rfl)
theorem aM(b:Expr){op:CmpOp}(h:op≠ .In:=by decide)(h2:op≠ .NotIn:=by decide):behindInMarks op b=false:=by
 have e1:(op==CmpOp.In)=false:=by cases op<;>first|rfl|exact absurd rfl h
 have e2:(op==CmpOp.NotIn)=false:=by cases op<;>first|rfl|exact absurd rfl h2
 cases b<;>simp[behindInMarks,e1,e2]
theorem ja{op:CmpOp}{r:R2}(ho:jB X (compareOp op) r)(ha:PE X a ta)(hb:PE X b tb)(hm:behindInMarks op b=false):PE X (.Compare a [op] [b] pos) (Yg r ta tb):=by intro pins s σ H Q I h;exact wpAny_Compare1 (TF ha hb I h λv u s2 x y H2 I2 rx ry q=>ho pins s2 σ H2 x y v u Q I2 rx ry q) hm
noncomputable def RT(t:TE):TT:=λσ H Q=>t σ H λx H'=>∃k,x= .bl k/\Q k H'
theorem aG{op:CmpOp}{r:R2}(ho:jB X (compareOp op) r)(ha:PE X a ta)(hb:PE X b tb)(hm:behindInMarks op b=false):PT X (.Compare a [op] [b] pos) (RT (Yg r ta tb)):=by intro pins s σ H Q I h;refine wpAny_isTrue_Compare1 (bG (ha pins s σ H _ I h) λv s1⟨x,H1,I1,r1,q1⟩=>bG (hb pins s1 σ H1 _ I1 q1) λu s2⟨y,H2,I2,r2,q2⟩=>bG (ho pins s2 σ H2 x y v u _ I2 r1 r2 q2) λc s3⟨z,H3,I3,r3,k,e,q3⟩=>?_) hm;subst e;cases r3;exact wpAny_truthy_bool ⟨H3,I3,q3⟩
noncomputable def Tg(r r':R2)(ta tb tc:TE):TE:=λσ H Q=>ta σ H λx H1=>tb σ H1 λy H2=>r x y H2 λz H3=>∃k,z= .bl k/\(if k=true then tc σ H3 λw' H4=>r' y w' H4 Q else Q (.bl false) H3)
theorem Nj{op op':CmpOp}{r r':R2}(ho:jB X (compareOp op) r)(K4:jB X (compareOp op') r')(ha:PE X a ta)(hb:PE X b tb)(hc:PE X c tc)(hm:lastMarks [op,op'] [b,c]=false:=by with_unfolding_all rfl):PT X (.Compare a [op,op'] [b,c] pos) (RT (Tg r r' ta tb tc)):=by intro pins s σ H Q I h;refine isTrue_chain (bG (ha pins s σ H _ I h) λv s1⟨x,H1,I1,r1,q1⟩=>test_link (bG (hb pins s1 σ H1 _ I1 q1) λu s2⟨y,H2,I2,r2,q2⟩=>bG (ho pins s2 σ H2 x y v u _ I2 r1 r2 q2) λd s3⟨z,H3,I3,r3,k,e,q3⟩=>?_)) hm;subst e;cases r3;refine wpAny_truthy_bool ?_;cases k with|false=>obtain⟨k',e',q'⟩:=q3;cases e';exact ite_ff ⟨H3,I3,q'⟩|true=>refine ite_tt (test_last (bG (hc pins s3 σ H3 _ I3 q3) λw' s4⟨z',H4,I4,r4,q4⟩=>bG (K4 pins s4 σ H4 y z' u w' _ I4 r2 r4 q4) λd' s5⟨z2,H5,I5,r5,k2,e2,q5⟩=>?_));subst e2;cases r5;exact wpAny_truthy_bool ⟨H5,I5,q5⟩
theorem vy:(sizeLine:Nat)<2^63:=by rw[sizeLine_eq];decide
theorem vo:jB X (binaryOp .Add) (λx y H Q=>∃i j,x= .str i/\y= .str j/\i.length+j.length<=sizeLine/\Q (.str (i++j)) H):=by intro pins s σ H x y v u Q I rx ry h;obtain⟨i,j,rfl,rfl,hz,q⟩:=h;obtain⟨t,rfl⟩:=rx;obtain⟨t',rfl⟩:=ry;exact add_str (λt' tk=>⟨.str (i++j),H,I.tok _,⟨_,rfl⟩,q⟩) hz
theorem vals1{x:V}{us:List Value}(r:Vals [x] us):∃u,us=[u]/\RelV x u:=by cases r with|cons r1 r2=>cases r2;exact⟨_,rfl,r1⟩
end
end L2
namespace L2
open PySem PySem.Spec PyProof.Rows
structure Tv(h:Heap)(x dx C:Addr)(mA:Str->Option Value):Prop where
 obj:h.get? x=some (PySem.W.instObj C dx)
 ns:h.Ns1 dx mA
 ne:dx≠x
theorem Jg{h:Heap}{dx:Addr}{mA:Str->Option Value}(n:h.Ns1 dx mA):∃od,h.get? dx=some od/\∀name,PySem.W.lookIn name od=some (mA name):=by
 obtain⟨o,es,ep,ho,hd,hk,_,hm⟩:=n;refine⟨o,ho,λname=>?_⟩;have e:=hm name;unfold nsFind findBy at e;rw[<-Array.find?_toList]at e;unfold PySem.W.lookIn;rw[hd];dsimp only;split;·rename_i y q;rw[q]at e;exact congrArg some e
 ·rename_i q;rw[q]at e;have a:es.toList.any (·.refKey)=false:=by rw[List.any_eq_false];intro y hy;obtain⟨z,t,abh⟩:=hk y (Array.mem_toList_iff.mp hy);simp[DictEntry.refKey,abh]
  have a':¬es.toList.any (·.refKey)=true:=by rw[a];exact Bool.false_ne_true
  rw[if_neg a'];exact congrArg some e
theorem Tv.look{h:Heap}{x dx C:Addr}{mA:Str->Option Value}(I:Tv h x dx C mA):∃od,PySem.W.InstAt h x (PySem.W.instObj C dx) C (some od)/\∀name,PySem.W.lookIn name od=some (mA name):=let⟨od,ho,hl⟩:=Jg I.ns;⟨od,⟨I.obj,rfl,rfl,ho⟩,hl⟩
section
variable{prog:Program}{w:World}{A:Around}{E:Value->Shared->Prop}{s:Shared}{K:PySem.W.Frag}{x dx C f:Addr}{mA:Str->Option Value}{name:Str}{v:Value}
end
theorem wt.some_of{v:V}{o:Option Value}(r:wt (some v) o):∃u,o=some u/\RelV v u:=by cases o with|none=>exact(show False from r).elim|some u=>exact⟨u,rfl,r⟩
section
variable{P:Program}{w:World}{H H':Hp}{h h':Heap}{a C dx:Addr}{fs fs':List (Str×V)}
theorem OH(bJ:hG P w H h)(e:H a=some (.ins C dx fs)):∃mA,Tv h a dx C mA/\(∀f,wt (fs.lookup f) (mA f))/\PySem.Within mA (fs.map (·.1))/\fs.length<=1000/\H dx=some (.own a):=by obtain⟨d,z,ne,ob,mA,n,r,q⟩:=(show bV P w H h a (.ins C dx fs)from bJ a _ e);exact⟨mA,⟨ob,n,ne⟩,r,q,z,d⟩
end
structure Cls(K:PySem.W.Frag)(C:Addr):Prop where
 pg:PySem.W.plainGet K C Str.empty=true
 hd:PySem.W.hasDictIn K C=true
 po:PySem.W.plainOver K C=true
 sa:PySem.W.findIn K (.ref C) "__setattr__"=some (some (.builtin "object.__setattr__"))
theorem Cls.get{K:PySem.W.Frag}{C:Addr}(c:Cls K C)(f:Str):PySem.W.plainGet K C f=true:=c.pg
structure Con(K:PySem.W.Frag)(C:Addr)(f:Str)(v:V)(u:Value):Prop where
 at_:PySem.W.findIn K (.ref C) f=some (some u)
 rel:RelV v u
 get:PySem.W.specialIn K u "__get__"=some none
 cp:PySem.W.copiedNames.contains f=false
structure Meth(K:PySem.W.Frag)(C:Addr)(m:Str)(f:Addr):Prop where
 at_:PySem.W.findIn K (.ref C) m=some (some (.ref f))
 fn:PySem.W.isFn K (.ref f)=true
 kp:PySem.W.keepIn K (.ref f)=true
section
variable{X:Cx}{pins:List (Addr×Obj)}{σ:St}{H:Hp}{s:Shared}{a C dx:Addr}{fs:List (Str×V)}{f:Str}{v:V}{A:Around}{E:Value->Shared->Prop}
end
section
variable{X:Cx}{o e value:Expr}{f:Str}{pos pos' Lq:Pos}{ta tv:TE}
end
section
variable{X:Cx}{pins:List (Addr×Obj)}{σ:St}{H:Hp}{s:Shared}{A:Around}{E:Value->Shared->Prop}{Q:Value->Shared->Prop}{c:Value}{b:Bool}
inductive jz(K:PySem.W.Frag)(H:Hp):V->Value->Prop where|ba:jz K H .ba (.type "NoneType")|bl(x:Bool):jz K H (.bl x) (.type "bool")|int(i:Int):jz K H (.int i) (.type "int")|str(x:Str):jz K H (.str x) (.type "str")|Uo(x:UInt64):jz K H (.Uo x) (.type "float")|lst{a:Addr}{xs:List V}(e:H a=some (.lst xs)):jz K H (.ref a) (.type "list")|CA{a:Addr}{o:Obj}{xs:List V}(e:H a=some (.CA o (.lst xs))):jz K H (.ref a) (.type "list")|tup{a:Addr}{xs:List V}(e:H a=some (.tup xs)):jz K H (.ref a) (.type "tuple")|dK{a:Addr}{aC:List (Key×V)}(e:H a=some (.dK aC)):jz K H (.ref a) (.type "dict")|dT{a:Addr}{aC:List (List Key×V)}(e:H a=some (.dT aC)):jz K H (.ref a) (.type "dict")|ins{a C dx:Addr}{fs:List (Str×V)}(e:H a=some (.ins C dx fs))(cl:Cls K C)(ha:PySem.W.findIn K (.ref C) "__class__"=some (some (.builtin "object.__class__")))(hn:PySem.W.specialIn K (.builtin "object.__class__") "__get__"=some (some (.builtin "getset_descriptor.__get__")))(htk:PySem.W.takesIn K (.builtin "object.__class__")=some true)(hm:PySem.W.mroIn K C (.type "object")=some true):jz K H (.ref a) (.ref C)
theorem JC{x:V}{u t:Value}(I:Inv X pins σ H s)(rx:RelV x u)(ty:jz X.K H x t)(e:PySem.W.kitOne X.K t c=some b)(h:∀tk,Q (.bool b) {s with toks:=tk}):wpAny (model X.prog X.w) A (call (.builtin "isinstance") [u,c]) Q E s:=by cases ty with|ba=>cases(show u=Value.none from rx);exact PySem.W.kia_one PySem.W.kitx_none I.iY True.intro e (λz=>nomatch z) h|bl y=>cases(show u=Value.bool y from rx);exact PySem.W.kia_one PySem.W.kitx_bool I.iY True.intro e (λz=>nomatch z) h|int i=>obtain⟨t,q⟩:=(show∃t,u=Value.int i t from rx);cases q;exact PySem.W.kia_one PySem.W.kitx_int I.iY True.intro e (λz=>nomatch z) h|str y=>obtain⟨t,q⟩:=(show∃t,u=Value.str y t from rx);cases q;exact PySem.W.kia_one PySem.W.kitx_str I.iY True.intro e (λz=>nomatch z) h|Uo y=>obtain⟨t,q⟩:=(show∃t,u=Value.float y t from rx);cases q;exact PySem.W.kia_one PySem.W.kitx_float I.iY True.intro e (λz=>nomatch z) h|@lst a xs ea=>cases(show u=Value.ref a from rx);obtain⟨_,_,n,_,h1⟩:=(show bV X.prog X.w H s.heap a (.lst xs)from I.bJ a _ ea);exact PySem.W.kia_one PySem.W.kitx_list I.iY ⟨_,h1,rfl⟩ e (λz=>nomatch z) h|@CA a ob xs ea=>cases(show u=Value.ref a from rx);obtain⟨_,_,_,n,_,h1⟩:=(show bV X.prog X.w H s.heap a (.CA ob (.lst xs))from I.bJ a _ ea);exact PySem.W.kia_one PySem.W.kitx_list I.iY ⟨_,h1,rfl⟩ e (λz=>nomatch z) h|@tup a xs ea=>cases(show u=Value.ref a from rx);obtain⟨_,_,_,p⟩:=(show bV X.prog X.w H s.heap a (.tup xs)from I.bJ a _ ea);obtain⟨o,h1,h2,_⟩:=p;exact PySem.W.kia_one PySem.W.kitx_tuple I.iY ⟨o,h1,h2⟩ e (λz=>nomatch z) h|@dK a aC ea=>cases(show u=Value.ref a from rx);obtain⟨_,_,vs,_,p⟩:=(show bV X.prog X.w H s.heap a (.dK aC)from I.bJ a _ ea);obtain⟨o,es,ep,h1,h2,_⟩:=p;exact PySem.W.kia_one PySem.W.kitx_dict I.iY ⟨o,h1,h2.1⟩ e (λz=>nomatch z) h|@dT a aC ea=>cases(show u=Value.ref a from rx);obtain⟨_,_,xs,_,o,es,ep,h1,h2,_⟩:=(show bV X.prog X.w H s.heap a (.dT aC)from I.bJ a _ ea);exact PySem.W.kia_one PySem.W.kitx_dict I.iY ⟨o,h1,h2.1⟩ e (λz=>nomatch z) h|@ins a C dx fs ea cl ha hn htk hm=>cases(show u=Value.ref a from rx);obtain⟨mA,O,_⟩:=OH I.bJ ea;obtain⟨od,J,_⟩:=O.look;exact PySem.W.kia_one (PySem.W.kitx_own (cl.get _) cl.hd ha hn htk hm) I.iY J e (λz=>nomatch z) h
end
end L2
namespace L2
open PySem PySem.Spec PyProof.Rows
structure cI(k:Nat)(A:Around):Prop where
 dp:A.depth+3*k+5<recursionLimit
 un:A.units+16*k+200<cLine
 hd:130<=k->A.handled=none
theorem cI.mono{j k:Nat}{A:Around}(r:cI k A)(h:j<=k):cI j A:=⟨by have :=r.dp;omega,by have :=r.un;omega,λz=>r.hd (by omega)⟩
theorem cI.deeper{k:Nat}{A:Around}(r:cI (k+1) A)(env:Env):cI k (A.deeper env):=⟨by have :=r.dp;show A.depth+1+3*k+5<_;omega,by have :=r.un;show A.units+3+16*k+200<_;omega,λz=>r.hd (by omega)⟩
theorem cI.depth{k:Nat}{A:Around}(r:cI k A):A.depth<recursionLimit:=by have :=r.dp;omega
theorem cI.units{k:Nat}{A:Around}(r:cI k A):A.units+64<cLine:=by have :=r.un;omega
noncomputable def Yn:TA:=λ_ H Q=>Q [] H
noncomputable def Rl(ta:TE)(tr:TA):TA:=λσ H Q=>ta σ H λx H1=>tr σ H1 λxs H2=>Q (x::xs) H2
section
variable{X:Cx}{e:Expr}{es:List Expr}{te:TE}{t:TA}{pos:Pos}
theorem af:PA X [] Yn:=λ_ _ _ _ H Q I h=>Calls.spliced_nil ⟨[],H,I, .nil,h⟩
theorem aa(ha:PE X e te)(hr:PA X es t)(hs:starEach (e::es) X.env=(false,eval e X.env)::starEach es X.env:=by rfl):PA X (e::es) (Rl te t):=by intro pos pins s σ H Q I h;rw[hs];show wpAny _ _ (spliced ((false,eval e X.env)::backTo pos (starEach es X.env))) _ _ s;refine Calls.spliced_cons (bG (ha pins s σ H _ I h) λu s1⟨x,H1,I1,r1,q1⟩=>?_);exact bG (hr pos pins s1 σ H1 _ I1 q1) λus s2⟨xs,H2,I2,r2,q2⟩=>⟨x::xs,H2,I2, .cons r1 r2,q2⟩
noncomputable def aa5(t:TA):TE:=λσ H Q=>t σ H λxs H1=>xs.length<=sizeLine/\∀p,H1 p=none->Q (.ref p) (upd H1 p (.tup xs))
noncomputable def abr(t:TA):TE:=λσ H Q=>t σ H λxs H1=>xs.length<=sizeLine/\∀p,H1 p=none->Q (.ref p) (upd H1 p (.lst xs))
theorem ay{x1}(h:PA X es t):PE X (.Tuple es x1 pos) (aa5 t):=by intro pins s σ H Q I hq;refine wpAny_Tuple_spliced (bG (h pos pins s σ H _ I hq) λus s1⟨xs,H1,I1,r,z,q⟩=>⟨by rw[<-r.length];exact z,?_⟩);have hf:H1 s1.heap.objs.size=none:=I1.bJ.fresh (Nat.le_refl _);refine⟨.ref s1.heap.objs.size,upd H1 s1.heap.objs.size (.tup xs),I1.laid (t':=s1.toks) (λb u e=>Heap.get?_push_of_some _ e) (Nat.le_refl _) ?_,rfl,q _ hf⟩;exact⟨z,us,r,⟨_,Heap.get?_push_size _ rfl,rfl,_,rfl⟩⟩
theorem fK(h:PA X es t):PE X (.List es pos) (abr t):=by intro pins s σ H Q I hq;refine wpAny_List_spliced (bG (h pos pins s σ H _ I hq) λus s1⟨xs,H1,I1,r,z,q⟩=>⟨by rw[<-r.length];exact z,?_⟩);have hf:H1 s1.heap.objs.size=none:=I1.bJ.fresh (Nat.le_refl _);refine⟨.ref s1.heap.objs.size,upd H1 s1.heap.objs.size (.lst xs),I1.laid (t':=s1.toks) (λb u e=>Heap.get?_push_of_some _ e) (Nat.le_refl _) ?_,rfl,q _ hf⟩;exact⟨z,us,0,r,Heap.get?_push_size _ rfl⟩
end
noncomputable abbrev Sp:=List V->Hp->VK->XK->Prop
noncomputable abbrev nH:=Option Value->List Env->Hp->Shared->XK->Value->Shared->Prop
structure Bh(P:Program)(w:World)(K:PySem.W.Frag)(mg:Str->Option Value)(base:Heap)(A:Around)(outer:List Env)(s:Shared)(H:Hp):Prop where
 frames:A.frames=some outer
 mod:Mod K mg base
 bs:∀b o,base.get? b=some o->s.heap.get? b=some o/\H b=none
 Cz:base.objs.size<=s.heap.objs.size
 gL:s.heap.FunFrames base outer
 Oe:∀b∈hI outer,H b=none
 bJ:hG P w H s.heap
 bare:AllBare s.gens
 VP:HB base A
noncomputable def CE(outer:List Env)(P:Program)(w:World)(H:Hp)(s:Shared)(Q:VK)(u:Value)(s':Shared):Prop:=∃v H',s'.os=s.os/\AllBare s'.gens/\Un (hI outer) [] H H' s.heap s'.heap/\hG P w H' s'.heap/\RelV v u/\Q v H'
noncomputable def CR(CX:nH)(hh:Option Value)(outer:List Env)(P:Program)(w:World)(H:Hp)(s:Shared)(Q:VK)(E:XK)(r:Result)(s':Shared):Prop:=match r with| .ok (.ret u)=>CE outer P w H s Q u s'| .ok _=>False| .error e=>CX hh outer H s E e s'
structure wZ(P:Program)(w:World)(K:PySem.W.Frag)(mg:Str->Option Value)(base:Heap)(CX:nH)(k:Nat)(f:Addr)(fd:FuncData)(ps:List Str)(sp:Sp):Prop where
 len:∀vs H Q E,sp vs H Q E->vs.length=ps.length
 run:∀(A:Around)(outer:List Env)(s:Shared)(H:Hp)(args:Args)(us:List Value)(vs:List V)(Q:VK)(E:XK),cI k A->Bh P w K mg base A outer s H->BindsTo s fd args (ps.zip us)->Vals vs us->sp vs H Q E->codeAny (model P w) A (.call (.ref f) args) (CR CX A.handled outer P w H s Q E) s
section
variable{X:Cx}{pins:List (Addr×Obj)}{σ:St}{H:Hp}{s s':Shared}
theorem Inv.after{Q:VK}{u:Value}(I:Inv X pins σ H s)(h:CE X.stack X.prog X.w H s Q u s'):EP X pins σ Q u s':=by obtain⟨v,H',os,bare,un,bJ,r,q⟩:=h;obtain⟨hh,g,d,t,os'⟩:=s';obtain rfl:os'=s.os:=os;exact⟨v,H',I.call (h':=hh) (g':=g) (d':=d) (t':=t) (ch:=[]) un bJ bare (λb z=>absurd z (by simp)),r,q⟩
end
noncomputable def Xo(sp:Sp)(dvs:List V)(E:XK)(t:TA):TE:=λσ H Q=>t σ H λvs H1=>sp (vs++dvs) H1 Q E
noncomputable def Binds(K:PySem.W.Frag)(fd:FuncData)(ps:List Str)(ds:List Value):Prop:=∀(s:Shared)(us:List Value),K.In s.heap->(us++ds).length=ps.length->BindsTo s fd ⟨us,[]⟩ (ps.zip (us++ds))
theorem Binds.all{K:PySem.W.Frag}{fd:FuncData}{ps:List Str}(h:∀us:List Value,us.length=ps.length->bindArgs fd ⟨us,[]⟩=pure (ps.zip us)):Binds K fd ps []:=λs us _ hl=>by rw[List.append_nil]at hl⊢;exact .of_eq (h us hl)
noncomputable def Passes(CX:nH)(X:Cx)(E:XK):Prop:=∀(pins:List (Addr×Obj))(σ:St)(H:Hp)(s:Shared)(e:Value)(s':Shared),Inv X pins σ H s->CX X.A.handled X.stack H s E e s'->X.xe e s'
section
variable{X:Cx}{CX:nH}{k:Nat}{f C:Addr}{fd:FuncData}{ps:List Str}{sp:Sp}{dvs:List V}{ds:List Value}{E:XK}{x m:Str}{p pos apos:Pos}{e o:Expr}{es:List Expr}{ta:TE}{t:TA}
end
noncomputable def PK(X:Cx)(Y3:List Keyword)(t:TA):Prop:=∀(pos:Pos)(pins:List (Addr×Obj))(s:Shared)(σ:St)(H:Hp)(Q:List V->Hp->Prop),Inv X pins σ H s->t σ H Q->wpAny (model X.prog X.w) X.A (evalAll ((backToKw pos (keywordEach Y3 X.env)).map (·.2))) (AP X pins σ Q) X.xe s
section
variable{X:Cx}{CX:nH}{k:Nat}{f C:Addr}{fd:FuncData}{ps ks:List Str}{sp:Sp}{E:XK}{x m:Str}{p pos apos aap:Pos}{e o:Expr}{es:List Expr}{Y3:List Keyword}{te ta:TE}{t tk:TA}{nm:Option Str}
theorem Vg:PK X [] Yn:=λ_ _ _ _ H Q I h=>wpAny_evalAll_nil ⟨[],H,I, .nil,h⟩
theorem Pn(ha:PE X e te)(hr:PK X Y3 t):PK X (⟨nm,e,aap⟩::Y3) (Rl te t):=by intro pos pins s σ H Q I h;show wpAny _ _ (evalAll ((do let v<-eval e X.env;standAt pos;pure v)::(backToKw pos (keywordEach Y3 X.env)).map (·.2))) _ _ s;refine wpAny_evalAll_cons (wpAny_bind (bG (ha pins s σ H _ I h) λu s1⟨x,H1,I1,r1,q1⟩=>wpAny_bind (wpAny_standAt (wpAny_pure ?_))));exact bG (hr pos pins s1 σ H1 _ I1 q1) λus s2⟨xs,H2,I2,r2,q2⟩=>⟨x::xs,H2,I2, .cons r1 r2,q2⟩
end
structure aK(N P:List Str)(sc:Scope):Prop where
 kind:sc.kind= .function
 co:sc.isCoroutine=false
 gen:sc.isGenerator=false
 nd:N.Nodup
 pre:N.take P.length=P
 par:∀x∈P,sc.names.lookup x=some .local\/sc.names.lookup x=some .cell
 SD:∀y∈sc.names,y.2≠ .free
theorem xN{kindOf:Str->Option NameKind}{x:Str}:∀{binds:List (Str×Value)}{m:Str->Option Value},(∀v,(x,v)∉binds)->bindL kindOf binds m x=m x
 |[],_,_=>rfl
 |(n,v)::r,m,h=>by
  unfold bindL;rw[xN λw hw=>h w (List.mem_cons_of_mem _ hw)];split
  ·have :x≠n:=by rintro rfl;exact h v List.mem_cons_self
   simp[this]
  ·rfl
theorem xI{kindOf:Str->Option NameKind}{x:Str}:∀{binds:List (Str×Value)}{m:Str->Option Value},(∀v,(x,v)∉binds)->bindC kindOf binds m x=m x
 |[],_,_=>rfl
 |(n,v)::r,m,h=>by
  unfold bindC;rw[xI λw hw=>h w (List.mem_cons_of_mem _ hw)];split;·rfl
  ·have :x≠n:=by rintro rfl;exact h v List.mem_cons_self
   simp[this]
theorem xD{kindOf:Str->Option NameKind}{x:Str}{v:Value}:∀{P:List Str}{vs:List Value}{i:Nat}{m:Str->Option Value},P.Nodup->P[i]?=some x->vs[i]?=some v->kindOf x=some .local->bindL kindOf (P.zip vs) m x=some v|[],_,_,_,_,h,_,_=>by simp at h|_::_,[],_,_,_,_,h,_=>by simp at h|p::P,w::vs,0,m,nd,h1,h2,hk=>by simp at h1 h2;subst h1;subst h2;show bindL kindOf ((p,w)::P.zip vs) m p=_;unfold bindL;rw[xN λv hv=>(List.nodup_cons.mp nd).1 (List.of_mem_zip hv).1,if_pos hk];simp|p::P,w::vs,i+1,m,nd,h1,h2,hk=>by show bindL kindOf ((p,w)::P.zip vs) m x=_;unfold bindL;exact xD (i:=i) (List.nodup_cons.mp nd).2 (by simpa using h1) (by simpa using h2) hk
theorem xx{kindOf:Str->Option NameKind}{x:Str}{v:Value}:∀{P:List Str}{vs:List Value}{i:Nat}{m:Str->Option Value},P.Nodup->P[i]?=some x->vs[i]?=some v->kindOf x≠some .local->bindC kindOf (P.zip vs) m x=some v|[],_,_,_,_,h,_,_=>by simp at h|_::_,[],_,_,_,_,h,_=>by simp at h|p::P,w::vs,0,m,nd,h1,h2,hk=>by simp at h1 h2;subst h1;subst h2;show bindC kindOf ((p,w)::P.zip vs) m p=_;unfold bindC;rw[xI λv hv=>(List.nodup_cons.mp nd).1 (List.of_mem_zip hv).1,if_neg hk];simp|p::P,w::vs,i+1,m,nd,h1,h2,hk=>by show bindC kindOf ((p,w)::P.zip vs) m x=_;unfold bindC;exact xx (i:=i) (List.nodup_cons.mp nd).2 (by simpa using h1) (by simpa using h2) hk
noncomputable def start(N:List Str)(vs:List V):St:=vs.map some++List.replicate (N.length-vs.length) none
noncomputable def dZ(CX:nH)(P:Program)(w:World)(K:PySem.W.Frag)(mg:Str->Option Value)(base:Heap)(N:List Str)(qual:Str)(scope:Scope)(f:Addr)(cd:Value)(A:Around)(outer:List Env)(s:Shared)(H:Hp)(E:XK):Cx where prog:=P;w:=w;K:=K;mg:=mg;base:=base;A:=A.deeper (envOfC qual scope s.heap.objs.size f cd);N:=N;bO:=s;H₀:=H;env:=envOfC qual scope s.heap.objs.size f cd;outer:=outer;stack:=envOfC qual scope s.heap.objs.size f cd::outer;ex:=[];calm:=true;fn:=λ_=>true;pn:=[];xe:=λe s'=>wpAny (model P w) (A.deeper (envOfC qual scope s.heap.objs.size f cd)) (leaving (envOfC qual scope s.heap.objs.size f cd) e) (λ_ Te=>CX A.handled outer H s E e Te) (λe' Te=>CX A.handled outer H s E e' Te) s'
theorem AK{sc:Scope}{n:Nat}{x:Str}(h:sc.names.lookup x=some .cell):∃c,(cellsFrom n sc.names []).lookup x=some c:=by have q:=PySem.W.cellsFrom_some sc.names n [] (.inl h);exact Option.isSome_iff_exists.mp q
theorem Iy{CX:nH}{P:Program}{w:World}{K:PySem.W.Frag}{mg:Str->Option Value}{base:Heap}{N ps:List Str}{qual:Str}{scope:Scope}{f:Addr}{cd:Value}{A:Around}{outer:List Env}{s s1:Shared}{H:Hp}{E:XK}{us:List Value}{vs:List V}(S:aK N ps scope)(e0:Bh P w K mg base A outer s H)(hl:vs.length=ps.length)(r:Vals vs us)(x:InCallC s s.heap.objs.size (bindL (envOfC qual scope s.heap.objs.size f cd).kindOf (ps.zip us) λ_=>none) (cellsFrom (s.heap.objs.size+1) scope.names []) (bindC (envOfC qual scope s.heap.objs.size f cd).kindOf (ps.zip us) λ_=>none) s1):Inv (dZ CX P w K mg base N qual scope f cd A outer s H E) [] (start N vs) H s1:=by
 have wy:ps.length<=N.length:=by have :=congrArg List.length S.pre;rw[List.length_take]at this;omega
 obtain⟨h1,tk,rfl,hk⟩:=x.done;have TV:∀b:Addr,b∉(dZ CX P w K mg base N qual scope f cd A outer s H E).ex:=λb z=>absurd (show b∈([]:List Addr)from z) (by simp);refine⟨⟨e0.mod,S.kind,rfl,rfl,Nat.le_refl _,λy z c h1 h2=>?_,λy hy=>?_,λy c _ h=>?_,λ_=>e0.VP.toP,Around.frames_deeper e0.frames, .inr ⟨rfl,rfl⟩,λb z=>absurd z (TV b),e0.bs,e0.Cz,λb _ _=>TV b,λb z=>absurd z (TV b),e0.gL,e0.Oe⟩,rfl,e0.bare,Un.kept hk,⟨_,x.toInCall.ns,λi y v h1 h2 h3=>?_⟩,λy c h=>⟨_,x.cell y c h⟩,e0.bJ.fresh (Nat.le_refl _),λy c h=>?_,λp hp=>absurd (show p∈([]:List (Addr×Obj))from hp) (by simp),e0.bJ.kept hk,?_⟩;·exact name_of_addr x.apart (PySem.mem_of_lookup h1) (PySem.mem_of_lookup h2)
 ·have hy:scope.names.lookup y=some .cell\/scope.names.lookup y=some .free:=hy;rcases hy with hy|hy;·exact AK hy
  ·exact absurd rfl (S.SD _ (PySem.mem_of_lookup hy))
 ·exact Nat.le_of_lt (x.above y c (PySem.mem_of_lookup h))
 ·have hi:i<vs.length:=by
   unfold start at h2;by_cases hi:i<vs.length;·exact hi
   ·rw[List.getElem?_append_right (by simpa using hi)]at h2;rw[List.getElem?_replicate]at h2;split at h2<;>cases h2
  have ha:vs[i]?=some v:=by unfold start at h2;rw[List.getElem?_append_left (by simpa using hi),List.getElem?_map]at h2;cases e:vs[i]? with|none=>rw[e]at h2;cases h2|some a=>rw[e]at h2;cases h2;rfl
  obtain⟨u,hu,rv⟩:=r.get ha;have hp:ps[i]?=some y:=by rw[<-S.pre,List.getElem?_take_of_lt (by omega)];exact h1
  have ndP:ps.Nodup:=by rw[<-S.pre];exact S.nd.sublist (List.take_sublist _ _)
  refine⟨u,rv,?_⟩;rcases S.par y (List.mem_of_getElem? hp)with k|k;·exact .inl ⟨k,xD ndP hp hu k⟩
  ·obtain⟨c,e⟩:=AK (n:=s.heap.objs.size+1) k;refine .inr ⟨.inl k,c,e,?_⟩;have q:=x.cell y c e;rw[xx ndP hp hu (by show scope.names.lookup y≠_;rw[k];decide)]at q;exact q
 ·exact e0.bJ.fresh (Nat.le_of_lt (x.above y c (PySem.mem_of_lookup h)))
 ·unfold start;show _=N.length;rw[List.length_append,List.length_map,List.length_replicate];omega
theorem Ep{CX:nH}{P:Program}{w:World}{K:PySem.W.Frag}{mg:Str->Option Value}{base:Heap}{k:Nat}{f:Addr}{name qual:Str}{params:Arguments}{body:List Stmt}{scope:Scope}{dV kV doc pm cM ct oc:Value}{an od:Option Addr}{BG:Array (Option Value)}{N ps:List Str}{sp:Sp}(lk:K.lookup f=some ⟨oc,od, .func (PySem.W.fnOf name qual params body scope dV kV doc pm an cM ct),BG⟩)(wN:PySem.W.codeIn K cM qual=true)(S:aK N ps scope)(len:∀vs H Q E,sp vs H Q E->vs.length=ps.length)(eE:∀(A:Around)(outer:List Env)(s:Shared)(H:Hp)(vs:List V)(Q:VK)(E:XK),cI k (A.deeper (envOfC qual scope s.heap.objs.size f cM))->sp vs H Q E->∃t,eM (dZ CX P w K mg base N qual scope f cM A outer s H E) body t/\t {nx:=λ_ H'=>Q .ba H',rt:=Q} (start N vs) H):wZ P w K mg base CX (k+1) f (PySem.W.fnOf name qual params body scope dV kV doc pm an cM ct) ps sp:=by
 refine⟨len,λA outer s H args us vs Q E hr e0 hb r Ay=>?_⟩;have hl:=len _ _ _ _ Ay;have KX:K.In s.heap:=e0.mod.ID.keeps λb o e=>(e0.bs b o e).1;have lim:s.heap.NoLimit:=e0.mod.nolimit.keeps λb o e=>(e0.bs b o e).1;have Wi:∀y∈ps.zip us,scope.names.lookup y.1=some .local\/(scope.names.lookup y.1=some .cell/\((cellsFrom (s.heap.objs.size+1) scope.names []).lookup y.1).isSome=true):=λ⟨n,v⟩hy=>by
  rcases S.par n (List.of_mem_zip hy).1 with q|q;·exact .inl q
  ·exact .inr ⟨q,PySem.W.cellsFrom_some _ _ _ (.inl q)⟩
 refine codeAny_call_function hr.depth (KX _ _ lk) rfl S.co S.gen rfl (PySem.W.codeRec_of KX wN) (hb _ _ _ _ ?_);refine wpAny_newFunctionEnv_cells S.kind Wi λenv he s1 x=>?_;subst he;refine⟨lim.keeps x.toInCall.keep,codeAny_func ?_⟩;obtain⟨t,ht,hq⟩:=eE A outer s H vs Q E (hr.deeper _) Ay;have I:Inv (dZ CX P w K mg base N qual scope f cM A outer s H E) [] (start N vs) H s1:=Iy S e0 hl r x;refine wpAny_mono (ht [] s1 (start N vs) H _ I hq) (λfl s' hs=>?_) λe s' hs=>hs;have fin:∀{aY:St}{H':Hp}{v:V}{u:Value},Inv (dZ CX P w K mg base N qual scope f cM A outer s H E) [] aY H' s'->RelV v u->Q v H'->CE outer P w H s Q u s':=λ{aY H' v u}J rv q=>⟨v,H',J.os,J.bare,J.base,J.bJ,rv,q⟩;cases fl with|ret u=>obtain⟨v,aY,H',J,rv,q⟩:=hs;exact fin J rv q|next=>obtain⟨aY,H',J,q⟩:=hs;exact fin (v:=V.ba) (u:=Value.none) J rfl q|brk=>obtain⟨_,_,_,q⟩:=hs;exact False.elim q|cont=>obtain⟨_,_,_,q⟩:=hs;exact False.elim q
end L2
namespace L2
open PySem PySem.Spec PyProof.Rows
section
variable{X:Cx}{x:Str}{p pos:Pos}{e:Expr}{es:List Expr}{t:TA}{id T:String}{r:List V->Hp->VK->Prop}
noncomputable def tCB(r:List V->Hp->VK->Prop)(t:TA):TE:=λσ H Q=>t σ H λvs H1=>r vs H1 Q
theorem bg(hc:jl X (.builtin id) r)(hg:Gl X x)(hm:X.mg x=none)(hv:bootBuiltins x=some (.builtin id))(ha:PA X (e::es) t)(hn:x≠"__name__":=by decide)(vY:(x==("__debug__":Str))=false:=by decide)(he:starEach (e::es) X.env=(false,eval e X.env)::starEach es X.env:=by rfl)(wy:(backTo pos (starEach es X.env)).any (·.1)=false:=by rfl):PE X (.Call (.Name x p) (e::es) [] pos) (tCB r t):=by intro pins s σ H Q I h;refine wpAny_Call_Name_kw (jr I hg hm hv ?_ hn vY);exact PyProof.Rows.callWith_builtin1 (bG (ha pos pins s σ H _ I h) λus s1⟨vs,H1,I1,r1,q1⟩=>hc pins s1 σ H1 vs us Q I1 r1 q1) he wy
theorem l5(hc:jl X (.type T) r)(hg:Gl X x)(hm:X.mg x=none)(hv:bootBuiltins x=some (.type T))(ha:PA X (e::es) t)(hn:x≠"__name__":=by decide)(vY:(x==("__debug__":Str))=false:=by decide)(he:starEach (e::es) X.env=(false,eval e X.env)::starEach es X.env:=by rfl)(wy:(backTo pos (starEach es X.env)).any (·.1)=false:=by rfl):PE X (.Call (.Name x p) (e::es) [] pos) (tCB r t):=by intro pins s σ H Q I h;refine wpAny_Call_Name_kw (jr I hg hm hv ?_ hn vY);exact PyProof.Rows.callWith_type1 (bG (ha pos pins s σ H _ I h) λus s1⟨vs,H1,I1,r1,q1⟩=>hc pins s1 σ H1 vs us Q I1 r1 q1) he wy
end
end L2
namespace HT
open PySem PyProof.Rows
section
open PySem.SeqAt
open PySem.AutoSeq1(wpAny_loadPart')
open PySem.MeetsSeq PySem.MeetsSeq2 PySem.MeetsSeq3
end
section
variable{prog:Program}{w:World}{A:Around}{E:Value->Shared->Prop}{s:Shared}
theorem OK{t b:Addr}{vs ws:List Value}{Q:Value->Shared->Prop}(ht:IsTup s.heap t vs.toArray)(hb:IsTup s.heap b ws.toArray)(hv:vs≠[])(h1:ws=[]->Q (.ref t) s)(h2:ws≠[]->Q (.ref s.heap.objs.size) {s with heap:=s.heap.push {cls:= .type "tuple",data:= .seq (vs++ws).toArray}})(hsz:vs.length+ws.length<=sizeLine):wpAny (model prog w) A (binaryOp .Add (.ref t) (.ref b)) Q E s:=by
 obtain⟨⟨cls,dd,data,sl⟩,ho,hc,n,hd⟩:=id ht;obtain⟨⟨acs,dd2,data2,sl2⟩,SY,UY,n2,hd2⟩:=id hb;simp only at hc hd UY hd2;subst hc hd UY hd2;have e:vs.toArray++ws.toArray=(vs++ws).toArray:=by simp
 by_cases hw:ws=[];·exact concat_meets ⟨_,ho,rfl⟩ ⟨_,SY,rfl⟩ noFill_tuple_add seq_tuple_add PySem.F.slot_tuple_add PySem.F.entry_tuple_add (PySem.F.args_tuple_add_2 _ _) (tuple_addW1 t b vs.toArray ws.toArray n n2 dd dd2 sl sl2 (by simpa using hv) (by simp[hw])) ⟨ho,SY,h1 hw⟩
 ·refine concat_meets ⟨_,ho,rfl⟩ ⟨_,SY,rfl⟩ noFill_tuple_add seq_tuple_add PySem.F.slot_tuple_add PySem.F.entry_tuple_add (PySem.F.args_tuple_add_2 _ _) (tuple_addW2 t b vs.toArray ws.toArray n n2 dd dd2 sl sl2 (by simpa using hv) (by simpa using hw) (by rw[List.size_toArray,List.size_toArray];exact hsz)) ⟨ho,SY,?_⟩;rw[e];exact h2 hw
noncomputable def dw(n d:Nat):Option Int->Nat|none=>d|some v=>if v<0 then(v+(n:Int)).toNat else min v.toNat n
theorem A7(n d:Nat):dw n d none=d:=rfl
theorem Gr(n d k:Nat):dw n d (some (k:Int))=min k n:=by show(if(k:Int)<0 then((k:Int)+(n:Int)).toNat else min (k:Int).toNat n)=min k n;rw[if_neg (by omega),Int.toNat_natCast]
theorem S_(n d:Nat)(hd:d<=n)(o:Option Int):dw n d o<=n:=by
 cases o with
  |none=>exact hd
  |some v=>
   show(if v<0 then(v+(n:Int)).toNat else min v.toNat n)<=n;by_cases hv:v<0;·rw[if_pos hv];omega
   ·rw[if_neg hv];exact Nat.min_le_right _ _
theorem E_(v:Int)(n d:Nat):(if v<0 then max (v+(n:Int)) 0 else min v (n:Int))=((dw n d (some v):Nat):Int):=by
 show(if v<0 then max (v+(n:Int)) 0 else min v (n:Int))=(((if v<0 then(v+(n:Int)).toNat else min v.toNat n):Nat):Int);by_cases hv:v<0;·simp only[if_pos hv];omega
 ·simp only[if_neg hv];omega
theorem Dr(lo hi:Option Int)(n:Nat):Builtin.Slice.sliceAdjust lo hi 1 (n:Int)=(((dw n 0 lo:Nat):Int),((dw n n hi:Nat):Int)):=by
 have h1:¬((1:Int)<0):=by omega
 unfold Builtin.Slice.sliceAdjust;simp only[h1,if_false];refine Prod.ext ?_ ?_;·cases lo with|none=>rfl|some v=>exact E_ v n 0
 ·cases hi with|none=>rfl|some v=>exact E_ v n n
theorem Du(i j:Nat):Builtin.Slice.slicePlaces (i:Int) (j:Int) 1=j-i:=by
 unfold Builtin.Slice.slicePlaces;have h1:(1:Int)>0:=by omega
 simp only[h1,if_true,Int.ediv_one];split<;>omega
theorem vG{v:Value}{o:Option Int}{Q:Option Int->Shared->Prop}(p:IsPart v o)(h:Q o s):wpAny (model prog w) A (Builtin.Slice.slicePartIndex v) Q E s:=by cases p with|none=>exact slicePart_none h|int i t=>exact slicePart_int h
theorem f9{sl:Addr}{vl vu:Value}{lo hi:Option Int}{n:Nat}{Q:Int×Int×Nat->Shared->Prop}(hs:s.heap.IsSliceOf sl vl vu .none)(pl:IsPart vl lo)(pu:IsPart vu hi)(h:Q (((dw n 0 lo:Nat):Int),1,dw n n hi-dw n 0 lo) s):wpAny (model prog w) A (Builtin.Slice.sliceApplied (.ref sl) (pure (n:Int))) Q E s:=by obtain⟨os,SS,FG,Xc⟩:=id hs;unfold Builtin.Slice.sliceApplied Builtin.Slice.sliceFields;refine wpAny_bind (wpAny_bind (wpAny_field SS Xc (x:=vl) rfl (wpAny_bind (wpAny_field SS Xc (x:=vu) rfl (wpAny_bind (wpAny_field SS Xc (x:= .none) rfl (wpAny_pure ?_)))))));refine wpAny_bind (slicePart_none ?_);show wpAny _ _ (if((1:Int)==0)=true then _ else _) _ _ s;rw[if_neg (by decide)];refine wpAny_bind (vG pl (wpAny_bind (vG pu (wpAny_bind (wpAny_pure ?_)))));show wpAny _ _ (match Builtin.Slice.sliceAdjust lo hi 1 (n:Int)with|(lo,hi)=>pure (lo,(1:Int),Builtin.Slice.slicePlaces lo hi 1)) _ _ s;rw[Dr lo hi n];show wpAny _ _ (pure (((dw n 0 lo:Nat):Int),(1:Int),Builtin.Slice.slicePlaces ((dw n 0 lo:Nat):Int) ((dw n n hi:Nat):Int) 1)) _ _ s;rw[Du];exact wpAny_pure h
theorem KR(xs:Array Value)(i k:Nat):((List.range k).filterMap λ(m:Nat)=>xs[((i:Int)+(m:Int)*1).toNat]?).toArray=((xs.toList.drop i).take k).toArray:=by
 have e:(λ(m:Nat)=>xs[((i:Int)+(m:Int)*1).toNat]?)=λm=>xs[i+m]?:=by
  funext m;have :((i:Int)+(m:Int)*1).toNat=i+m:=by omega
  rw[this]
 rw[e];have :=pick_run xs i k;rw[List.filterMap_map]at this;have e2:((λx=>xs[x]?)∘λx=>i+x)=λm=>xs[i+m]?:=rfl;rw[e2]at this;rw[this]
theorem kF{t sl:Addr}{items:Array Value}{vl vu:Value}{lo hi:Option Int}{Q:Value->Shared->Prop}(ht:IsTup s.heap t items)(hs:s.heap.IsSliceOf sl vl vu .none)(pl:IsPart vl lo)(pu:IsPart vu hi)(hw:¬(dw items.size 0 lo=0/\dw items.size items.size hi=items.size))(h:Q (.ref s.heap.objs.size) {s with heap:=s.heap.push {cls:= .type "tuple",data:= .seq ((items.toList.drop (dw items.size 0 lo)).take (dw items.size items.size hi-dw items.size 0 lo)).toArray}})(hsz:items.size<=sizeLine):wpAny (model prog w) A (getItem (.ref t) (.ref sl)) Q E s:=by
 have Gn:sizeOk (.seq ((items.toList.drop (dw items.size 0 lo)).take (dw items.size items.size hi-dw items.size 0 lo)).toArray):=by show((items.toList.drop (dw items.size 0 lo)).take (dw items.size items.size hi-dw items.size 0 lo)).toArray.size<=sizeLine;rw[List.size_toArray,List.length_take,List.length_drop,Array.length_toList];omega
 have hj:dw items.size items.size hi<=items.size:=S_ _ _ (Nat.le_refl _) hi;obtain⟨os,SS,FG,Xc⟩:=id hs;have Uj:s.TypeIs (.ref sl) "slice":=⟨os,SS,FG⟩;unfold getItem;try with_reducible refine wpAny_holding ?_
 first|refine wpAny_bind (wpAny_pure ?_)|skip
 refine wpAny_bind (wpAny_sequenceKey ht.typeIs (by decide) ?_);refine wpAny_bind (wpAny_callSpecial?_slot (name:=Str.ofString "__getitem__") ht.typeIs PyProof.Rows.slot_tuple_getitem (wpAny_call_entry PyProof.Rows.slot_tuple_getitem ht.typeIs entry_tuple_getitem ?_ (args_tuple_getitem _ _)));show wpAny _ _ (Builtin.Tuple.tupleItemsOf (.ref t)>>=_) _ _ s;refine wpAny_bind (tupleItemsOf_ ht ?_);refine wpAny_bind (wpAny_typeOf Uj ?_);rw[if_pos (by decide)];refine wpAny_bind (f9 hs pl pu ?_);have V6:¬((((dw items.size 0 lo:Nat):Int)==0&&(1:Int)==1&&(dw items.size items.size hi-dw items.size 0 lo)==items.size)=true):=by intro q;rw[Bool.and_eq_true,Bool.and_eq_true]at q;have q1:((dw items.size 0 lo:Nat):Int)=0:=eq_of_beq q.1.1;have q2:dw items.size items.size hi-dw items.size 0 lo=items.size:=eq_of_beq q.2;exact hw ⟨by omega,by omega⟩
 show wpAny _ _ (if(((dw items.size 0 lo:Nat):Int)==0&&(1:Int)==1&&(dw items.size items.size hi-dw items.size 0 lo)==items.size)=true then _ else _) _ _ s;rw[if_neg V6,KR];first|exact wpAny_bind (m:=Builtin.Tuple.tupleExact _) (wpAny_newObj_type (wpAny_pure ⟨_,rfl,wpAny_pure h⟩) Gn)|exact wpAny_bind (m:=Builtin.Tuple.tupleExact _) (wpAny_newObj_type (wpAny_bind (wpAny_pure (wpAny_pure ⟨_,rfl,wpAny_pure h⟩))) Gn)|exact wpAny_bind (wpAny_bind (m:=Builtin.Tuple.tupleExact _) (wpAny_newObj_type (wpAny_pure (wpAny_pure ⟨_,rfl,wpAny_pure h⟩)) Gn))|exact wpAny_bind (wpAny_bind (m:=Builtin.Tuple.tupleExact _) (wpAny_newObj_type (wpAny_pure ⟨_,rfl,wpAny_pure h⟩) Gn))
end
end HT
namespace L2
open PySem PySem.Spec PyProof.Rows
noncomputable abbrev TO:=St->Hp->(Option Int->Hp->Prop)->Prop
noncomputable def PO(X:Cx)(e:Option Expr)(t:TO):Prop:=∀(pins:List (Addr×Obj))(s:Shared)(σ:St)(H:Hp)(Q:Option Int->Hp->Prop),Inv X pins σ H s->t σ H Q->wpAny (model X.prog X.w) X.A (evalPart e X.env) (λu s'=>∃o H',Inv X pins σ H' s'/\IsPart u o/\Q o H') X.xe s
noncomputable def Pa:TO:=λ_ H Q=>Q none H
noncomputable def WT(t:TE):TO:=λσ H Q=>t σ H λx H1=>∃i,x= .int i/\Q (some i) H1
section
variable{X:Cx}{e:Expr}{te:TE}{lo hi:Option Expr}{tl th:TO}{pos p2:Pos}
theorem eS:PO X none Pa:=by intro pins s σ H Q I h;rw[evalPart_none];exact wpAny_pure ⟨none,H,I, .none,h⟩
theorem gI(h:PE X e te):PO X (some e) (WT te):=by intro pins s σ H Q I hw;rw[evalPart_some];refine bG (h pins s σ H _ I hw) λu s1⟨x,H1,I1,r1,q1⟩=>?_;obtain⟨i,rfl,q⟩:=q1;obtain⟨t,rfl⟩:=r1;exact⟨some i,H1,I1, .int i t,q⟩
noncomputable def Pt(X:Cx)(r:V->Option Int->Option Int->Hp->VK->Prop):Prop:=∀(pins:List (Addr×Obj))(s:Shared)(σ:St)(H:Hp)(x:V)(v vl vu:Value)(lo hi:Option Int)(sl:Addr)(Q:VK),Inv X pins σ H s->RelV x v->s.heap.IsSliceOf sl vl vu .none->IsPart vl lo->IsPart vu hi->r x lo hi H Q->∃T id,typeLookup (.type T) "__getitem__"=pure (some (.builtin id))/\s.TypeIs v T/\wpAny (model X.prog X.w) X.A (getItem v (.ref sl)) (EP X pins σ Q) X.xe s
noncomputable def tSl(r:V->Option Int->Option Int->Hp->VK->Prop)(te:TE)(tl th:TO):TE:=λσ H Q=>te σ H λx H1=>tl σ H1 λl H2=>th σ H2 λu H3=>r x l u H3 Q
theorem ik{r:V->Option Int->Option Int->Hp->VK->Prop}(hr:Pt X r)(he:PE X e te)(hl:PO X lo tl)(hu:PO X hi th):PE X (.Subscript e (.Slice lo hi none p2) pos) (tSl r te tl th):=by intro pins s σ H Q I h;refine Subscript_ (bG (he pins s σ H _ I h) λv s1⟨x,H1,I1,r1,q1⟩=>?_);refine wpAny_Slice (bG (hl pins s1 σ H1 _ I1 q1) λvl s2⟨l,H2,I2,pl,q2⟩=>bG (hu pins s2 σ H2 _ I2 q2) λvu s3⟨u,H3,I3,pu,q3⟩=>?_);rw[evalPart_none];refine wpAny_pure ?_;have I4:Inv X pins σ H3 {s3 with heap:=s3.heap.push {cls:= .type "slice",data:= .fields #[vl,vu, .none]}}:=I3.kept (t':=s3.toks) λb ob q=>Heap.get?_push_of_some _ q;obtain⟨T,id,hT,ht,hg⟩:=hr pins {s3 with heap:=s3.heap.push {cls:= .type "slice",data:= .fields #[vl,vu, .none]}} σ H3 x v vl vu l u s3.heap.objs.size Q I4 r1 (Heap.IsSliceOf.new ..) pl pu q3;show wpAny (model X.prog X.w) X.A (subscriptTail e (.Slice lo hi none p2) v (.ref s3.heap.objs.size)) (EP X pins σ Q) X.xe {s3 with heap:=s3.heap.push {cls:= .type "slice",data:= .fields #[vl,vu, .none]}};exact tail_any (ops:=[.ref s3.heap.objs.size,v]) ht hT hg (by with_unfolding_all rfl)
noncomputable def gG(xs:List V)(lo hi:Option Int):List V:=(xs.drop (HT.dw xs.length 0 lo)).take (HT.dw xs.length xs.length hi-HT.dw xs.length 0 lo)
theorem mw(xs:List V)(lo hi:Option Int):(gG xs lo hi).length<=xs.length:=by unfold gG;rw[List.length_take,List.length_drop];omega
noncomputable def abb(K:PySem.W.Frag):V->Option Int->Option Int->Hp->VK->Prop:=λx lo hi H Q=>∃a xs,x= .ref a/\bN K H a xs/\¬(HT.dw xs.length 0 lo=0/\HT.dw xs.length xs.length hi=xs.length)/\∀p,H p=none->Q (.ref p) (upd H p (.tup (gG xs lo hi)))
theorem U1:Pt X (abb X.K):=by
 intro pins s σ H x v vl vu lo hi sl Q I rx hs pl pu h;obtain⟨a,xs,rfl,hx,hw,q⟩:=h;cases rx;obtain⟨aI,r,ht,hz⟩:=I.tuple hx;have hlen:aI.toArray.size=xs.length:=by rw[List.size_toArray];exact r.length.symm
 refine⟨"tuple",_,PyProof.Rows.slot_tuple_getitem.lookup,ht.typeIs,?_⟩;refine HT.kF ht hs pl pu (by rw[hlen];exact hw) ?_ (by rw[hlen];exact hz);rw[hlen];refine⟨.ref s.heap.objs.size,_,I.laid (t':=s.toks) (o:= .tup (gG xs lo hi)) (λb ob q=>Heap.get?_push_of_some _ q) (Nat.le_refl _) ?_,rfl,q _ (I.bJ.fresh (Nat.le_refl _))⟩;exact⟨Nat.le_trans (mw xs lo hi) hz,_,(r.drop (HT.dw xs.length 0 lo)).take (HT.dw xs.length xs.length hi-HT.dw xs.length 0 lo),IsTup.new _ _⟩
noncomputable def XU(K:PySem.W.Frag):R2:=λx y H Q=>∃a b xs ys,x= .ref a/\y= .ref b/\bN K H a xs/\bN K H b ys/\xs≠[]/\xs.length+ys.length<=sizeLine/\(ys=[]->Q (.ref a) H)/\(ys≠[]->∀p,H p=none->Q (.ref p) (upd H p (.tup (xs++ys))))
theorem Vals.uH{xs:List V}{us:List Value}(r:Vals xs us):us=[]↔xs=[]:=by cases r with|nil=>simp|cons _ _=>simp
theorem OE:jB X (binaryOp .Add) (XU X.K):=by intro pins s σ H x y v u Q I rx ry h;obtain⟨a,b,xs,ys,rfl,rfl,ha,hb,hx,hz,q1,q2⟩:=h;cases rx;cases ry;obtain⟨aI,r1,p1,_⟩:=I.tuple ha;obtain⟨vK,r2,p2,_⟩:=I.tuple hb;refine HT.OK p1 p2 (λz=>hx (r1.uH.mp z)) (λz=>⟨.ref a,H,I,rfl,q1 (r2.uH.mp z)⟩) (λz=>?_) (by rw[<-r1.length,<-r2.length];exact hz);refine⟨.ref s.heap.objs.size,_,I.laid (t':=s.toks) (o:= .tup (xs++ys)) (λb ob q=>Heap.get?_push_of_some _ q) (Nat.le_refl _) ?_,rfl,q2 (λw=>z (r2.uH.mpr w)) _ (I.bJ.fresh (Nat.le_refl _))⟩;exact⟨by rw[List.length_append];exact hz,_,r1.append r2,IsTup.new _ _⟩
end
end L2
namespace L2
open PySem PySem.Spec PyProof.Rows
noncomputable def QU(n:Nat)(i:Int):Option Nat:=if 0<=i then(if i<n then some i.toNat else none)else if-(n:Int)<=i then some (i+n).toNat else none
noncomputable def zK{α:Type}(xs:List α)(i:Int):Option α:=(QU xs.length i).bind λj=>xs[j]?
theorem Hx{n:Nat}{i:Int}{j:Nat}(h:QU n i=some j):seqIndex? i n=some j/\j<n/\-(n:Int)<=i/\i<n:=by
 unfold QU at h;by_cases h0:0<=i
 ·rw[if_pos h0]at h;by_cases h1:i<n;·rw[if_pos h1]at h;have e:i.toNat=j:=Option.some.inj h;exact⟨by rw[seqIndex_of h0 h1,e],by omega,by omega,h1⟩
  ·rw[if_neg h1]at h;cases h
 ·rw[if_neg h0]at h;by_cases h1:-(n:Int)<=i;·rw[if_pos h1]at h;have e:(i+n).toNat=j:=Option.some.inj h;exact⟨by rw[seqIndex_neg (by omega) h1,e],by omega,h1,by omega⟩
  ·rw[if_neg h1]at h;cases h
theorem zV{α:Type}{xs:List α}{i:Int}{v:α}(h:zK xs i=some v):∃j,seqIndex? i xs.length=some j/\xs[j]?=some v/\j<xs.length/\-(xs.length:Int)<=i/\i<xs.length:=by unfold zK at h;cases e:QU xs.length i with|none=>rw[e]at h;cases h|some j=>rw[e]at h;obtain⟨h1,h2,h3,h4⟩:=Hx e;exact⟨j,h1,h,h2,h3,h4⟩
theorem aF{α:Type}{xs:List α}{j:Nat}{v:α}(h:xs[j]?=some v):zK xs (j:Int)=some v:=by
 have hj:j<xs.length:=(List.getElem?_eq_some_iff.mp h).1;have e:QU xs.length (j:Int)=some j:=by unfold QU;rw[if_pos (by omega),if_pos (by omega)];simp
 unfold zK;rw[e];exact h
noncomputable def Oz(b:Expr):Prop:=∀o i,subscripted b false o i=operate [o,i] (getItem o i)
noncomputable def IxR(X:Cx)(r:R2):Prop:=∀(value slice:Expr)(pins:List (Addr×Obj))(s:Shared)(σ:St)(H:Hp)(x y:V)(v u:Value)(Q:VK),Inv X pins σ H s->RelV x v->RelV y u->r x y H Q->subscripted slice false v u=operate [v,u] (getItem v u)->wpAny (model X.prog X.w) X.A (subscriptTail value slice v u) (EP X pins σ Q) X.xe s
noncomputable def MtR(X:Cx)(id:String)(r:V->List V->Hp->VK->Prop):Prop:=∀(pins:List (Addr×Obj))(s:Shared)(σ:St)(H:Hp)(x:V)(xs:List V)(v:Value)(us:List Value)(Q:VK),Inv X pins σ H s->RelV x v->Vals xs us->r x xs H Q->wpAny (model X.prog X.w) X.A (call (.builtin id) (v::us)) (EP X pins σ Q) X.xe s
section
variable{X:Cx}{a b:Expr}{ta tb:TE}{pos:Pos}
theorem aW{r:R2}(hr:IxR X r)(ha:PE X a ta)(hb:PE X b tb)(hs:Oz b):PE X (.Subscript a b pos) (Yg r ta tb):=by intro pins s σ H Q I h;exact Subscript_ (TF ha hb I h λv u s2 x y H2 I2 rx ry q=>hr a b pins s2 σ H2 x y v u Q I2 rx ry q (hs _ _))
noncomputable def acA(K:PySem.W.Frag):R2:=λx y H Q=>∃p xs i v,x= .ref p/\y= .int i/\bQ K H p xs/\zK xs i=some v/\Q v H
noncomputable def aaV(K:PySem.W.Frag):R2:=λx y H Q=>∃p xs i v,x= .ref p/\y= .int i/\bN K H p xs/\zK xs i=some v/\Q v H
noncomputable def aco:R2:=λx y H Q=>∃z i c,x= .str z/\y= .int i/\z.length<=sizeLine/\zK z.cps.toList i=some c/\Q (.str ⟨#[c]⟩) H
theorem fw:IxR X (acA X.K):=by
 intro value slice pins s σ H x y v u Q I rx ry h hs;obtain⟨p,xs,i,z,rfl,rfl,hq,he,q⟩:=h;cases rx;obtain⟨t,rfl⟩:=ry;obtain⟨aI,r,pl,hz⟩:=I.list hq;obtain⟨j,h1,h2,h3,h4,h5⟩:=zV he;obtain⟨w,ew,uX⟩:=r.get h2;have hl:=r.length;have hn:=vy;have fin:EP X pins σ Q w s:=⟨z,H,I,uX,q⟩;by_cases h0:0<=i
 ·have hj:i.toNat=j:=by rw[seqIndex_of h0 h5]at h1;exact Option.some.inj h1
  exact item_listR pl.isList h0 (by omega) (by rw[hj];simpa using ew) fin hs
 ·have hj:(i+(aI.toArray.size:Int)).toNat=j:=by rw[seqIndex_neg (by omega) h4]at h1;rw[List.size_toArray,<-hl];exact Option.some.inj h1
  exact subscriptTail_builtinR (x:=w) pl.isList.typeIs slot_list_getitem.lookup (wpAny_getItem_list_neg (Q:=λr s'=>r=w/\EP X pins σ Q r s') pl.isList (by omega) (by rw[List.size_toArray]<;>omega) (by omega) (by rw[hj];simpa using ew) ⟨rfl,fin⟩) hs
theorem aR:IxR X (aaV X.K):=by intro value slice pins s σ H x y v u Q I rx ry h hs;obtain⟨p,xs,i,z,rfl,rfl,hq,he,q⟩:=h;cases rx;obtain⟨t,rfl⟩:=ry;obtain⟨aI,r,pl,hz⟩:=I.tuple hq;obtain⟨j,h1,h2,h3,h4,h5⟩:=zV he;obtain⟨w,ew,uX⟩:=r.get h2;have hl:=r.length;have hn:=vy;have fin:EP X pins σ Q w s:=⟨z,H,I,uX,q⟩;exact subscriptTail_builtinR (x:=w) pl.typeIs slot_tuple_getitem.lookup (getItem_tuple (j:=j) (Q:=λr s'=>r=w/\EP X pins σ Q r s') pl (by omega) (by omega) (by rw[List.size_toArray,<-hl];exact h1) (by simpa using ew) ⟨rfl,fin⟩) hs
theorem SI:IxR X aco:=by
 intro value slice pins s σ H x y v u Q I rx ry h hs;obtain⟨z,i,c,rfl,rfl,hz,he,q⟩:=h;obtain⟨t,rfl⟩:=rx;obtain⟨t',rfl⟩:=ry;obtain⟨j,h1,h2,h3,h4,h5⟩:=zV he;have hl:z.cps.toList.length=z.length:=by simp[Str.length]
 rw[hl]at h1 h4 h5;have hn:=vy;exact tail_any (typeIs_str s z t) slot_str_getitem.lookup (getItem_str (c:=c) (by have e1:decide (i< -(2^63:Int))=false:=decide_eq_false (by omega);have e2:decide (i>=2^63)=false:=decide_eq_false (by omega);rw[e1,e2,Bool.or_false]) (by rw[h1];simpa using h2) ⟨.str ⟨#[c]⟩,H,I.tok _,⟨_,rfl⟩,q⟩) hs
theorem CV(aI:List Value)(n j:Nat)(u:Value):Obj.mapSeq (·.setIfInBounds j u) {cls:= .type "list",data:= .seq aI.toArray n}={cls:= .type "list",data:= .seq (aI.set j u).toArray n}:=by simp[Obj.mapSeq]
theorem Inv.lst{pins:List (Addr×Obj)}{σ:St}{H:Hp}{s:Shared}{p:Addr}{xs:List V}(I:Inv X pins σ H s)(h:H p=some (.lst xs)):∃(aI:List Value)(n:Nat),Vals xs aI/\s.heap.get? p=some {cls:= .type "list",data:= .seq aI.toArray n}/\xs.length<=sizeLine:=by obtain⟨z,aI,n,r,e⟩:=I.bJ p _ h;exact⟨aI,n,r,e,z⟩
theorem Inv.RW{pins:List (Addr×Obj)}{σ:St}{H:Hp}{s:Shared}{p:Addr}{xs ys:List V}{aI its':List Value}{n n':Nat}{f:Obj->Obj}(I:Inv X pins σ H s)(h:H p=some (.lst xs))(ho:s.heap.get? p=some {cls:= .type "list",data:= .seq aI.toArray n})(hf:f {cls:= .type "list",data:= .seq aI.toArray n}={cls:= .type "list",data:= .seq its'.toArray n'})(r:Vals ys its')(hz:ys.length<=sizeLine)(t:Nat):Inv X pins σ (upd H p (.lst ys)) {s with heap:=s.heap.update p f,toks:=t}:=by
 have e:(s.heap.update p f).get? p=some {cls:= .type "list",data:= .seq its'.toArray n'}:=by rw[Heap.get?_update_self f ho (by rw[hf]<;>rfl),hf]
 refine I.write (x:=p) (e:=p) (by rw[h];trivial) (.inl rfl) (λb u hb q=>(Heap.get?_update_other _ _ (Ne.symm hb)).trans q) ⟨_,e⟩ ?_;exact⟨hz,its',n',r,e⟩
noncomputable def Y6:V->V->V->Hp->(Hp->Prop)->Prop:=λo i v H Q=>∃p xs k j,o= .ref p/\i= .int k/\H p=some (.lst xs)/\QU xs.length k=some j/\Q (upd H p (.lst (xs.set j v)))
theorem set_list:Zz X Y6:=by
 intro pins s σ H o i v ov iv u Q I ro ri rv h;obtain⟨p,xs,k,j,rfl,rfl,hp,hj,q⟩:=h;cases ro;obtain⟨t,rfl⟩:=ri;obtain⟨aI,n,r,ho,hz⟩:=I.lst hp;obtain⟨h1,h2,h3,h4⟩:=Hx hj;have hl:=r.length;have hn:=vy;have I':Inv X pins σ (upd H p (.lst (xs.set j v))) {s with heap:=s.heap.update p (Obj.mapSeq (·.setIfInBounds j u))}:=I.RW hp ho (CV aI n j u) (r.set rv j) (by rw[List.length_set];exact hz) s.toks;by_cases h0:0<=k
 ·have hk:k.toNat=j:=by rw[seqIndex_of h0 h4]at h1;exact Option.some.inj h1
  exact PySem.W.ki_setAt ho h0 (by omega) (by rw[List.size_toArray,<-hl];exact h4) (by rw[hk];exact⟨_,I',q⟩)
 ·have hk:(k+(aI.toArray.size:Int)).toNat=j:=by rw[seqIndex_neg (by omega) h3]at h1;rw[List.size_toArray,<-hl];exact Option.some.inj h1
  exact PySem.W.ki_setBack ho (by omega) (by rw[List.size_toArray,<-hl];exact h3) (by omega) (by rw[hk];exact⟨_,I',q⟩)
theorem Ac(lo hi:Option Int)(n:Nat):(sliceBounds lo hi none n).1=((HT.dw n 0 lo:Nat):Int)/\(sliceBounds lo hi none n).2.1=((HT.dw n n hi:Nat):Int)/\(sliceBounds lo hi none n).2.2=1:=by
 refine⟨?_,?_,rfl⟩
 ·cases lo with
   |none=>simp[sliceBounds,HT.dw]
   |some i=>
    simp only[sliceBounds,HT.dw,Option.getD_none,show(1:Int)>0 by decide,if_true];by_cases h:i<0;·simp only[h,if_true]<;>omega
    ·simp only[h,if_false]<;>omega
 ·cases hi with
   |none=>simp[sliceBounds,HT.dw]
   |some i=>
    simp only[sliceBounds,HT.dw,Option.getD_none,show(1:Int)>0 by decide,if_true];by_cases h:i<0;·simp only[h,if_true]<;>omega
    ·simp only[h,if_false]<;>omega
theorem xb(aI:List Value)(lo hi:Option Int):slicePick aI.toArray lo hi none=((aI.drop (HT.dw aI.length 0 lo)).take (HT.dw aI.length aI.length hi-HT.dw aI.length 0 lo)).toArray:=by obtain⟨h1,h2,h3⟩:=Ac lo hi aI.toArray.size;unfold slicePick;rw[h1,h2,h3];simp only[sliceRange_one,pick_run,List.size_toArray]<;>rfl
noncomputable def abD(K:PySem.W.Frag):V->Option Int->Option Int->Hp->VK->Prop:=λx lo hi H Q=>∃a xs,x= .ref a/\bQ K H a xs/\∀p,H p=none->Q (.ref p) (upd H p (.lst (gG xs lo hi)))
theorem Qh:Pt X (abD X.K):=by intro pins s σ H x v vl vu lo hi sl Q I rx hs pl pu h;obtain⟨a,xs,rfl,hx,q⟩:=h;cases rx;obtain⟨aI,r,ht,hz⟩:=I.list hx;have hlen:=r.length;refine⟨"list",_,slot_list_getitem.lookup,ht.isList.typeIs,?_⟩;refine wpAny_getItem_list_slice ht.isList hs pl pu .none (by simp) ?_ (by rw[List.size_toArray]<;>omega);rw[xb,<-hlen];refine⟨.ref s.heap.objs.size,_,I.laid (t':=s.toks) (o:= .lst (gG xs lo hi)) (λb ob q=>Heap.get?_push_of_some _ q) (Nat.le_refl _) ?_,rfl,q _ (I.bJ.fresh (Nat.le_refl _))⟩;exact⟨Nat.le_trans (mw xs lo hi) hz,_,0,(r.drop (HT.dw xs.length 0 lo)).take (HT.dw xs.length xs.length hi-HT.dw xs.length 0 lo),Heap.get?_push_size _ rfl⟩
noncomputable def mX:V->Bool| .ba=>true| .bl _=>true| .int _=>true| .str _=>true|_=>false
noncomputable def Qq:V->V->Bool| .ba, .ba=>true| .bl a, .bl b=>a==b| .bl a, .int b=>(if a then 1 else 0)==b| .int a, .bl b=>a==(if b then 1 else 0)| .int a, .int b=>a==b| .str a, .str b=>a==b|_,_=>false
theorem UW{A:Around}{s:Shared}{y x:V}{u v:Value}(ry:RelV y u)(rx:RelV x v)(fy:mX y=true)(fx:mX x=true):SeqAt.EqAt A s u v (Qq y x):=by
 cases y with
  |ba=>cases ry;cases x with|ba=>cases rx;exact SeqAt.EqAt.same _|bl b=>cases rx;exact SeqAt.EqAt.none_bool b|int b=>obtain⟨t,rfl⟩:=rx;exact SeqAt.EqAt.none_int b t|str b=>obtain⟨t,rfl⟩:=rx;exact SeqAt.EqAt.none_str b t|_=>exact absurd (show false=true from fx) Bool.false_ne_true
  |bl a=>cases ry;cases x with|ba=>cases rx;exact SeqAt.EqAt.bool_none a|bl b=>cases rx;exact SeqAt.EqAt.bool_bool a b|int b=>obtain⟨t,rfl⟩:=rx;exact SeqAt.EqAt.bool_int a b t|str b=>obtain⟨t,rfl⟩:=rx;exact SeqAt.EqAt.bool_str a b t|_=>exact absurd (show false=true from fx) Bool.false_ne_true
  |int a=>obtain⟨t',rfl⟩:=ry;cases x with|ba=>cases rx;exact SeqAt.EqAt.int_none a t'|bl b=>cases rx;exact SeqAt.EqAt.int_bool a t' b|int b=>obtain⟨t,rfl⟩:=rx;exact SeqAt.EqAt.int_int a t' b t|str b=>obtain⟨t,rfl⟩:=rx;exact SeqAt.EqAt.int_str a t' b t|_=>exact absurd (show false=true from fx) Bool.false_ne_true
  |str a=>obtain⟨t',rfl⟩:=ry;cases x with|ba=>cases rx;exact SeqAt.EqAt.str_none a t'|bl b=>cases rx;exact SeqAt.EqAt.str_bool a t' b|int b=>obtain⟨t,rfl⟩:=rx;exact SeqAt.EqAt.str_int a t' b t|str b=>obtain⟨t,rfl⟩:=rx;exact SeqAt.EqAt.str_str a t' b t|_=>exact absurd (show false=true from fx) Bool.false_ne_true
  |_=>exact absurd (show false=true from fy) Bool.false_ne_true
noncomputable def OI(x:V)(u:Value):Bool:=match u with| .none=>Qq .ba x| .bool b=>Qq (.bl b) x| .int i _=>Qq (.int i) x| .str z _=>Qq (.str z) x|_=>false
theorem LZ{x y:V}{u:Value}(r:RelV y u)(f:mX y=true):OI x u=Qq y x:=by cases y with|ba=>cases r;rfl|bl b=>cases r;rfl|int i=>obtain⟨t,rfl⟩:=r;rfl|str z=>obtain⟨t,rfl⟩:=r;rfl|_=>exact absurd (show false=true from f) Bool.false_ne_true
theorem Ag{x:V}:∀{xs:List V}{us:List Value},Vals xs us->xs.all mX=true->us.any (OI x)=xs.any λy=>Qq y x|_,_, .nil,_=>rfl|y::xs,u::us, .cons r t,f=>by rw[List.all_cons,Bool.and_eq_true]at f;rw[List.any_cons,List.any_cons,LZ r f.1,Ag t f.2]
theorem vw{A:Around}{s:Shared}{x:V}{v:Value}(rx:RelV x v)(fx:mX x=true):∀{xs:List V}{us:List Value},Vals xs us->xs.all mX=true->∀u∈us,SeqAt.EqAt A s u v (OI x u)
 |_,_, .nil,_=>λu hu=>by cases hu
 |y::xs,u::us, .cons r t,f=>λu' hu=>by
  rw[List.all_cons,Bool.and_eq_true]at f;rcases List.mem_cons.mp hu with rfl|hu;·rw[LZ r f.1];exact UW r rx f.1 fx
  ·exact vw rx fx t f.2 u' hu
noncomputable def SK(x:V)(xs:List V):Bool:=xs.any λy=>Qq y x
noncomputable def rIn(K:PySem.W.Frag)(neg:Bool):R2:=λx y H Q=>∃p xs,y= .ref p/\(bQ K H p xs\/bN K H p xs)/\mX x=true/\xs.all mX=true/\Q (.bl (if neg then !SK x xs else SK x xs)) H
theorem lX:jB X (compareOp .In) (rIn X.K false):=by
 intro pins s σ H x y v u Q I rx ry h;obtain⟨p,xs,rfl,hq,fx,fs,q⟩:=h;cases ry;rcases hq with hq|hq;·obtain⟨aI,r,pl,hz⟩:=I.list hq;refine SeqAt.in_listAt (OI x) pl.isList (λw hw=>vw rx fx r fs w (by simpa using hw)) ⟨.bl _,H,I,rfl,?_⟩;rw[show aI.toArray.any (OI x)=aI.any (OI x)by simp,Ag r fs];exact q
 ·obtain⟨aI,r,pl,hz⟩:=I.tuple hq;refine SeqAt.in_tupleAt (OI x) pl (λw hw=>vw rx fx r fs w (by simpa using hw)) ⟨.bl _,H,I,rfl,?_⟩;rw[show aI.toArray.any (OI x)=aI.any (OI x)by simp,Ag r fs];exact q
theorem bo:jl X (.builtin "len") (λxs H Q=>∃p ys,xs=[.ref p]/\(bQ X.K H p ys\/bN X.K H p ys)/\Q (.int ys.length) H):=by
 intro pins s σ H xs us Q I r h;obtain⟨p,ys,rfl,hq,q⟩:=h;obtain⟨u,rfl,rx⟩:=vals1 r;cases rx;have hn:=vy;rcases hq with hq|hq;·obtain⟨aI,r',pl,hz⟩:=I.list hq;have hlen:=r'.length;exact Calls.call_len_list pl.isList (by simp only[List.size_toArray]<;>omega) ⟨.int ys.length,H,I.tok _,⟨s.toks+1,by rw[List.size_toArray,hlen]⟩,q⟩
 ·obtain⟨aI,r',pl,hz⟩:=I.tuple hq;have hlen:=r'.length;exact len_tuple pl (by simp only[List.size_toArray]<;>omega) ⟨.int ys.length,H,I.tok _,⟨s.toks+1,by rw[List.size_toArray,hlen]⟩,q⟩
theorem kQ:jl X (.type "list") (λxs H Q=>∃p ys,xs=[.ref p]/\(bQ X.K H p ys\/bN X.K H p ys)/\∀l,H l=none->Q (.ref l) (upd H l (.lst ys))):=by
 intro pins s σ H xs us Q I r h;obtain⟨p,ys,rfl,hq,q⟩:=h;obtain⟨u,rfl,rx⟩:=vals1 r;cases rx;have fin:∀(aI:List Value),Vals ys aI->ys.length<=sizeLine->∀(h':Heap)(c':Nat),(∀b o',s.heap.get? b=some o'->h'.get? b=some o')->h'.get? s.heap.objs.size=some {cls:= .type "list",dict:=none,data:= .seq aI.toArray c',slots:=#[]}->EP X pins σ Q (.ref s.heap.objs.size) {s with heap:=h'}:=λaI r' hz h' c' kp e=>⟨.ref s.heap.objs.size,_,I.laid (t':=s.toks) kp (Nat.le_refl _) (show bV X.prog X.w _ h' _ (.lst ys)from⟨hz,aI,c',r',e⟩),rfl,q _ (I.bJ.fresh (Nat.le_refl _))⟩;rcases hq with hq|hq;·obtain⟨aI,r',pl,hz⟩:=I.list hq;have hlen:=r'.length;obtain⟨o,ho,hc,n,hd⟩:=pl.isList;exact call_list_seq p (.inl rfl) ho hc hd (λh' c' kp e=>fin aI r' hz h' c' kp e) (by simp only[List.size_toArray]<;>omega)
 ·obtain⟨aI,r',pl,hz⟩:=I.tuple hq;have hlen:=r'.length;obtain⟨o,ho,hc,n,hd⟩:=pl;exact call_list_seq p (.inr rfl) ho hc hd (λh' c' kp e=>fin aI r' hz h' c' kp e) (by simp only[List.size_toArray]<;>omega)
theorem wR:jl X (.type "tuple") (λxs H Q=>∃p ys,xs=[.ref p]/\((bQ X.K H p ys/\∀l,H l=none->Q (.ref l) (upd H l (.tup ys)))\/(bN X.K H p ys/\Q (.ref p) H))):=by
 intro pins s σ H xs us Q I r h;obtain⟨p,ys,rfl,h⟩:=h;obtain⟨u,rfl,rx⟩:=vals1 r;cases rx;rcases h with⟨hq,q⟩|⟨hq,q⟩;·obtain⟨aI,r',pl,hz⟩:=I.list hq;have hlen:=r'.length;refine call_tuple_list pl.isList (λh' kp=>?_) (by simp only[List.size_toArray]<;>omega);have I1:Inv X pins σ H {s with heap:=h'}:=I.kept (t':=s.toks) kp;have I2:Inv X pins σ (upd H h'.objs.size (.tup ys)) {s with heap:=h'.push {cls:= .type "tuple",data:= .seq aI.toArray}}:=I1.laid (t':=s.toks) (λb o e=>Heap.get?_push_of_some _ e) (Nat.le_refl _) (show bV X.prog X.w _ _ _ (.tup ys)from⟨hz,aI,r',IsTup.new _ _⟩);exact⟨.ref h'.objs.size,_,I2,rfl,q _ (I1.bJ.fresh (Nat.le_refl _))⟩
 ·obtain⟨aI,r',pl,hz⟩:=I.tuple hq;exact call_tuple_same pl ⟨.ref p,H,I,rfl,q⟩
noncomputable def tyV(K:PySem.W.Frag)(T:String)(x:V)(H:Hp):Prop:=match x with| .str _=>T="str"| .int _=>T="int"| .ref p=>(T="list"/\∃xs,bQ K H p xs)\/(T="tuple"/\∃o,K.lookup p=some o/\o.cls= .type "tuple"/\o.dict=none)\/(T="dict"/\((∃aC,H p=some (.dK aC))\/∃aC,H p=some (.dT aC)))\/(T="set"/\∃S n,H p=some (.set S n))|_=>False
theorem UM{pins:List (Addr×Obj)}{σ:St}{H:Hp}{s:Shared}{T:String}{x:V}{v:Value}(I:Inv X pins σ H s)(r:RelV x v)(ty:tyV X.K T x H):s.TypeIs v T/\∀a,v= .ref a->∃ob,s.heap.get? a=some ob/\ob.dict=none:=by
 cases x with
  |str z=>obtain⟨t,rfl⟩:=r;cases(show T="str"from ty);exact⟨typeIs_str s z t,λ_ e=>nomatch e⟩
  |int i=>obtain⟨t,rfl⟩:=r;cases(show T="int"from ty);exact⟨typeIs_int s i t,λ_ e=>nomatch e⟩
  |ref p=>
   cases r;rcases ty with⟨rfl,xs,hq⟩|⟨rfl,o,hk,hc,hd⟩|⟨rfl,hk⟩|⟨rfl,S,n,hk⟩;·obtain⟨aI,_,pl,_⟩:=I.list hq;refine⟨pl.isList.typeIs,λa e=>?_⟩;cases e;obtain⟨o,n,e,c,hd,_⟩:=pl;exact⟨o,e,hd⟩
   ·refine⟨⟨o,I.iY p o hk,hc⟩,λa e=>?_⟩;cases e;exact⟨o,I.iY _ o hk,hd⟩
   ·have z:∃o,s.heap.get? p=some o/\o.ExactDict:=by
     rcases hk with⟨aC,hk⟩|⟨aC,hk⟩;·obtain⟨_,_,_,_,o,_,_,e,ex,_⟩:=I.bJ p _ hk;exact⟨o,e,ex⟩
     ·obtain⟨_,_,_,_,o,_,_,e,ex,_⟩:=I.bJ p _ hk;exact⟨o,e,ex⟩
    obtain⟨o,e,ex⟩:=z;refine⟨⟨o,e,ex.1⟩,λa e2=>?_⟩;cases e2;exact⟨o,e,ex.2.1⟩
   ·obtain⟨o,_,_,_,e,ex,_⟩:=I.bJ p _ hk;refine⟨⟨o,e,ex.1⟩,λa e2=>?_⟩;cases e2;exact⟨o,e,ex.2.1⟩
  |_=>exact False.elim ty
noncomputable def tBM(K:PySem.W.Frag)(T:String)(r:V->List V->Hp->VK->Prop)(to:TE)(t:TA):TE:=λσ H Q=>to σ H λx H1=>tyV K T x H1/\t σ H1 λxs H2=>r x xs H2 Q
variable{o e:Expr}{es:List Expr}{to:TE}{t:TA}{name:Str}{apos dR:Pos}{T id:String}{r:V->List V->Hp->VK->Prop}
theorem BK(pa:PlainAttrs T)(slot:Slot T name id)(hty:typeOf (.builtin id)=pure (.type "method_descriptor"))(hm:MtR X id r)(ho:PE X o to)(ha:PA X (e::es) t)(Z8:attributeBase o name X.env (eval o X.env)=eval o X.env:=by rfl)(abu:((backTo dR (starEach (e::es) X.env)).all (λx=>!x.1)&&(backToKw dR (keywordEach [] X.env)).all (λx=>x.1.isSome)&&decide ((e::es).length+([]:List Keyword).length+(if([]:List Keyword).isEmpty then 0 else 1)<30))=true:=by rfl)(X5:(apos.endLine==dR.line)=true:=by rfl)(hs:starEach (e::es) X.env=(false,eval e X.env)::starEach es X.env:=by rfl)(R_:(backTo dR (starEach es X.env)).any (·.1)=false:=by rfl):PE X (.Call (.Attribute o name apos) (e::es) [] dR) (tBM X.K T r to t):=by intro pins s σ H Q I h;refine wpAny_Call_method_late Z8 abu X5 rfl (bG (ho pins s σ H _ I h) λv s1⟨x,H1,I1,r1,ty,q1⟩=>?_);obtain⟨h1,h2⟩:=UM I1 r1 ty;refine⟨T,id,pa,slot,hty,h1,h2,?_⟩;have hA:=ha dR pins s1 σ H1 _ I1 q1;rw[hs]at hA⊢;refine Calls.callWith_builtin (by show(false||(backTo dR (starEach es X.env)).any (·.1))=false;rw[R_]<;>rfl) (Calls.evalArgs_plain ?_);exact bG hA λus s2⟨vs,H2,I2,r2,q2⟩=>hm pins s2 σ H2 x vs v us Q I2 r1 r2 q2
end
end L2
namespace L2
open PySem PySem.Spec PyProof.Rows
noncomputable def MtM(X:Cx)(id:String)(r:V->List V->Hp->VK->Prop):Prop:=∀(pins:List (Addr×Obj))(s:Shared)(σ:St)(H:Hp)(x:V)(xs:List V)(v:Value)(us:List Value)(Q:VK),Inv X pins σ H s->RelV x v->Vals xs us->r x xs H Q->wpAny (model X.prog X.w) X.A (call (.builtin id) (v::us)) (EP X pins σ Q) X.xe s
theorem Vals.one{x:V}{us:List Value}(h:Vals [x] us):∃u,us=[u]/\RelV x u:=by cases h with|cons r e=>cases e;exact⟨_,rfl,r⟩
theorem Vals.two{x y:V}{us:List Value}(h:Vals [x,y] us):∃u v,us=[u,v]/\RelV x u/\RelV y v:=by cases h with|cons r t=>cases t with|cons q e=>cases e;exact⟨_,_,rfl,r,q⟩
theorem Vals.rep{xs:List V}{us:List Value}(h:Vals xs us):∀k:Nat,Vals (List.replicate k xs).flatten (List.replicate k us).flatten|0=> .nil|k+1=>by rw[List.replicate_succ,List.replicate_succ,List.flatten_cons,List.flatten_cons];exact Vals.append h (Vals.rep h k)
theorem foldl_rep(aI:List Value):∀(k:Nat)(acc:List Value),List.foldl (λx1 x2=>x1++x2) acc.toArray (List.replicate k aI.toArray)=(acc++(List.replicate k aI).flatten).toArray
 |0,acc=>by simp
 |k+1,acc=>by
  have e:acc.toArray++aI.toArray=(acc++aI).toArray:=by simp
  have e2:(acc++aI)++(List.replicate k aI).flatten=acc++(List.replicate (k+1) aI).flatten:=by rw[List.replicate_succ,List.flatten_cons,List.append_assoc]
  rw[<-e2,<-foldl_rep aI k (acc++aI),<-e,List.replicate_succ,List.foldl_cons]
section
variable{X:Cx}{pins:List (Addr×Obj)}{σ:St}{H:Hp}{s:Shared}{l b:Addr}{xs ys zs:List V}
theorem Inv.aai{aI its':List Value}{n:Nat}{f:Array Value->Array Value}{t':Nat}(I:Inv X pins σ H s)(hH:H l=some (.lst xs))(e:s.heap.get? l=some {cls:= .type "list",data:= .seq aI.toArray n})(hf:f aI.toArray=its'.toArray)(hv:Vals ys its')(hz:ys.length<=sizeLine):Inv X pins σ (upd H l (.lst ys)) {s with heap:=s.heap.update l (Obj.mapSeq f),toks:=t'}:=by have q:=PySem.IsL.update e f;rw[hf]at q;refine I.write (x:=l) (e:=l) (by rw[hH];exact trivial) (.inl rfl) (λb' u hb hu=>(Heap.get?_update_other s.heap (Obj.mapSeq f) (Ne.symm hb)).trans hu) ⟨_,q⟩ ?_;exact⟨hz,its',_,hv,q⟩
theorem Inv.Zm{aI:List Value}{t':Nat}(I:Inv X pins σ H s)(hv:Vals ys aI)(hz:ys.length<=sizeLine):Inv X pins σ (upd H s.heap.objs.size (.lst ys)) {s with heap:=s.heap.push {cls:= .type "list",data:= .seq aI.toArray},toks:=t'}:=I.laid (λ_ _ q=>Heap.get?_push_of_some _ q) (Nat.le_refl _) ⟨hz,aI,0,hv,Heap.get?_push_size _ rfl⟩
theorem Inv.Ts(I:Inv X pins σ H s)(hH:H l=some (.lst xs)):xs.length<=sizeLine/\∃(aI:List Value)(n:Nat),Vals xs aI/\xs.length=aI.length/\s.heap.get? l=some {cls:= .type "list",data:= .seq aI.toArray n}:=by obtain⟨z,aI,n,r,e⟩:=I.bJ l _ hH;exact⟨z,aI,n,r,r.length,e⟩
theorem Lw{n:Nat}(h:n<=sizeLine):Builtin.List.listTooLong n=false:=by unfold Builtin.List.listTooLong;exact decide_eq_false (by omega)
end
section
variable{X:Cx}
noncomputable def P0:V->List V->Hp->VK->Prop:=λx vs H Q=>∃l xs y,x= .ref l/\vs=[y]/\H l=some (.lst xs)/\xs.length<sizeLine/\Q .ba (upd H l (.lst (xs++[y])))
theorem lN:MtM X "list.append" P0:=by intro pins s σ H x vs v us Q I rx rv h;obtain⟨l,xs,y,rfl,rfl,hH,hz,q⟩:=h;cases rx;obtain⟨u,rfl,ru⟩:=rv.one;obtain⟨z,aI,n,r,hl,e⟩:=I.Ts hH;refine call_meets F.slot_list_append ⟨_,e,rfl⟩ F.entry_list_append (F.args_list_append_2 _ _) (PySem.list_append l aI.toArray n u (by rw[List.size_toArray];omega)) ⟨e,?_⟩;refine⟨.ba,_,I.aai (its':=aI++[u]) hH e (by simp) (r.append (.cons ru .nil)) ?_,rfl,q⟩;rw[List.length_append,List.length_singleton];omega
noncomputable def OJ:V->List V->Hp->VK->Prop:=λx vs H Q=>∃l b xs zs,x= .ref l/\vs=[.ref b]/\H l=some (.lst xs)/\H b=some (.lst zs)/\xs.length+zs.length<=sizeLine/\Q .ba (upd H l (.lst (xs++zs)))
theorem Jm:MtM X "list.extend" OJ:=by
 intro pins s σ H x vs v us Q I rx rv h;obtain⟨l,b,xs,zs,rfl,rfl,hH,hB,hz,q⟩:=h;cases rx;obtain⟨u,rfl,ru⟩:=rv.one;cases ru;obtain⟨z,aI,n,r,hl,e⟩:=I.Ts hH;obtain⟨z2,vK,n2,r2,hl2,e2⟩:=I.Ts hB;have hsz:aI.toArray.size+vK.toArray.size<=sizeLine:=by rw[List.size_toArray,List.size_toArray];omega
 have aah:¬(!aI.toArray.isEmpty&&Builtin.List.listTooLong (aI.toArray.size+vK.toArray.size))=true:=by rw[Lw hsz,Bool.and_false];exact Bool.false_ne_true
 refine call_meets F.slot_list_extend ⟨_,e,rfl⟩ F.entry_list_extend (F.args_list_extend_2 _ _) (AutoSeq1.list_extend_list_list_0 l aI.toArray n b vK.toArray n2 aah (by rw[List.size_toArray];omega) (by omega)) ⟨e,e2,?_⟩;refine⟨.ba,_,I.aai (its':=aI++vK) hH e (by simp) (r.append r2) ?_,rfl,q⟩;rw[List.length_append];omega
theorem len_rep{α:Type}(xs:List α)(k:Nat):(List.replicate k xs).flatten.length=k*xs.length:=by induction k with|zero=>simp|succ k ih=>rw[List.replicate_succ,List.flatten_cons,List.length_append,ih,Nat.succ_mul,Nat.add_comm]
end
section
variable{prog:Program}{w:World}{A:Around}{E:Value->Shared->Prop}{s:Shared}
end
section
variable{X:Cx}
end
end L2
namespace L2
open PySem PySem.Spec PyProof.Rows
section
variable{κ:Type}[DecidableEq κ]
noncomputable def dG(aC:List (κ×V))(k:κ):Option V:=(aC.find? λkv=>decide (kv.1=k)).map (·.2)
noncomputable def putK(aC:List (κ×V))(k:κ)(v:V):List (κ×V):=if(aC.any λkv=>decide (kv.1=k))=true then aC.map (λkv=>if kv.1=k then(kv.1,v)else kv)else aC++[(k,v)]
theorem cS{p:κ×V}{r:List (κ×V)}{k:κ}(e:p.1=k):dG (p::r) k=some p.2:=by simp[dG,List.find?_cons,e]
theorem cV{p:κ×V}{r:List (κ×V)}{k:κ}(e:¬p.1=k):dG (p::r) k=dG r k:=by simp[dG,List.find?_cons,e]
theorem hV(k:κ):∀aC:List (κ×V),(aC.any λkv=>decide (kv.1=k))=(dG aC k).isSome
 |[]=>rfl
 |p::r=>by
  rw[List.any_cons];by_cases e:p.1=k;·simp only[cS e,decide_eq_true e,Bool.true_or,Option.isSome_some]
  ·rw[cV e,decide_eq_false e,Bool.false_or];exact hV k r
theorem AE(k j:κ)(y:V):∀aC:List (κ×V),dG (aC.map λkv=>if kv.1=k then(kv.1,y)else kv) j=(dG aC j).map λx=>if j=k then y else x
 |[]=>rfl
 |p::r=>by
  have ih:=AE k j y r;rw[List.map_cons];by_cases h:p.1=k
  ·rw[if_pos h];by_cases e:p.1=j;·rw[cS (p:=(p.1,y)) e,cS e,Option.map_some,if_pos (e.symm.trans h)]
   ·rw[cV (p:=(p.1,y)) e,cV e,ih]
  ·rw[if_neg h];by_cases e:p.1=j;·rw[cS (p:=p) e,cS e,Option.map_some,if_neg (λz=>h (e.trans z))]
   ·rw[cV (p:=p) e,cV e,ih]
theorem xU(k j:κ)(y:V):∀aC:List (κ×V),dG aC k=none->dG (aC++[(k,y)]) j=if j=k then some y else dG aC j
 |[],_=>by
  by_cases e:k=j;·rw[if_pos e.symm];exact cS (p:=(k,y)) e
  ·rw[if_neg (λz=>e z.symm)];exact cV (p:=(k,y)) e
 |p::r,hn=>by
  rw[List.cons_append];have hk:¬p.1=k:=λz=>by rw[cS z]at hn;cases hn
  rw[cV hk]at hn;have ih:=xU k j y r hn;by_cases e:p.1=j;·rw[cS e,cS e,if_neg (λz=>hk (e.trans z))]
  ·rw[cV e,cV e,ih]
theorem Ls(aC:List (κ×V))(k j:κ)(y:V):dG (putK aC k y) j=if j=k then some y else dG aC j:=by
 unfold putK;by_cases a:(aC.any λkv=>decide (kv.1=k))=true
 ·rw[if_pos a,AE];rw[hV]at a;by_cases e:j=k;·obtain⟨x,hx⟩:=Option.isSome_iff_exists.mp a;rw[if_pos e,e,hx,Option.map_some,if_pos rfl]
  ·rw[if_neg e];cases dG aC j with|none=>rfl|some x=>rw[Option.map_some,if_neg e]
 ·rw[if_neg a];refine xU k j y aC ?_;rw[hV]at a;cases q:dG aC k with|none=>rfl|some x=>rw[q]at a;exact(a rfl).elim
theorem mW(aC:List (κ×V))(k:κ)(v:V):(putK aC k v).length<=aC.length+1:=by
 unfold putK;split;·rw[List.length_map];omega
 ·rw[List.length_append,List.length_cons,List.length_nil];omega
theorem wt.lS{o:Option V}{u:Option Value}(r:wt o u):o.isSome=u.isSome:=by
 cases o with
  |none=>cases u with|none=>rfl|some _=>exact(show False from r).elim
  |some _=>cases u with|none=>exact(show False from r).elim|some _=>rfl
theorem KV.val{aC:List (κ×V)}{vs:List (κ×Value)}(r:KV aC vs)(k:κ):wt (dG aC k) (valueAt vs k):=by
 unfold KV at r;induction r with
  |nil=>exact True.intro
  |@cons p q ps qs h t ih=>
   obtain⟨h1,h2⟩:=h;by_cases e:p.1=k
   ·have e':q.1=k:=h1.symm.trans e;have b:valueAt (q::qs) k=some q.2:=by simp[valueAt,List.find?_cons,e']
    rw[cS e,b];exact h2
   ·have e':¬q.1=k:=λz=>e (h1.trans z);have b:valueAt (q::qs) k=valueAt qs k:=by simp[valueAt,List.find?_cons,e']
    rw[cV e,b];exact ih
theorem KV.any{aC:List (κ×V)}{vs:List (κ×Value)}(r:KV aC vs)(k:κ):(aC.any λkv=>decide (kv.1=k))=vs.any λkv=>decide (kv.1=k):=by unfold KV at r;induction r with|nil=>rfl|cons h t ih=>rw[List.any_cons,List.any_cons,ih,h.1]
theorem KV.Sx{aC:List (κ×V)}{vs:List (κ×Value)}(r:KV aC vs)(k:κ){y:V}{u:Value}(ry:RelV y u):KV (aC.map λkv=>if kv.1=k then(kv.1,y)else kv) (vs.map λkv=>if kv.1=k then(kv.1,u)else kv):=by
 unfold KV at r⊢;induction r with
  |nil=>exact .nil
  |@cons p q ps qs h t ih=>
   rw[List.map_cons,List.map_cons];refine .cons ?_ ih;obtain⟨h1,h2⟩:=h;by_cases e:p.1=k;·rw[if_pos e,if_pos (h1.symm.trans e)];exact⟨h1,ry⟩
   ·rw[if_neg e,if_neg (λz=>e (h1.trans z))];exact⟨h1,h2⟩
theorem KV.put{aC:List (κ×V)}{vs:List (κ×Value)}(r:KV aC vs)(k:κ){y:V}{u:Value}(ry:RelV y u):KV (putK aC k y) (stored vs k u):=by
 unfold putK stored;rw[r.any k];by_cases e:(vs.any λkv=>decide (kv.1=k))=true;·rw[if_pos e,if_pos e];exact r.Sx k ry
 ·rw[if_neg e,if_neg e];exact Paired.snoc r ⟨rfl,ry⟩
theorem KV.length{aC:List (κ×V)}{vs:List (κ×Value)}(r:KV aC vs):aC.length=vs.length:=Paired.length r
end
theorem DY{P:Program}{w:World}{k:Key}{u:Value}(r:RelV (kV k) u):(cZ P w).is k u=true:=by cases k with|inl i=>obtain⟨t,e⟩:=(show∃t,u=Value.int i t from r);subst e;exact Ba P w i t|inr x=>obtain⟨t,e⟩:=(show∃t,u=Value.str x t from r);subst e;exact AF P w x t
theorem xE{P:Program}{w:World}:∀{ks:List Key}{us:List Value},Vals (ks.map kV) us->ItemsAre (cZ P w) ks us|[],_,r=>by rw[List.map_nil]at r;cases r;exact .nil|k::ks,_,r=>by rw[List.map_cons]at r;cases r with|cons h t=>exact .cons (DY h) (xE t)
noncomputable abbrev KT(H:Hp):List (List Key×V)->List (List Key×Addr×Value)->Prop:=Paired λp q=>p.1=q.1/\H q.2.1=some (.tup (p.1.map kV))/\RelV p.2 q.2.2
theorem KT.val{H:Hp}{aC:List (List Key×V)}{xs:List (List Key×Addr×Value)}(r:KT H aC xs)(k:List Key):wt (dG aC k) ((atKey xs k).map (·.2)):=by
 induction r with
  |nil=>exact True.intro
  |@cons p q ps qs h t ih=>
   obtain⟨h1,_,h2⟩:=h;by_cases e:p.1=k
   ·have e':q.1=k:=h1.symm.trans e;have b:atKey (q::qs) k=some q.2:=by simp[atKey,List.find?_cons,e']
    rw[cS e,b];exact h2
   ·have e':¬q.1=k:=λz=>e (h1.trans z);have b:atKey (q::qs) k=atKey qs k:=by simp[atKey,List.find?_cons,e']
    rw[cV e,b];exact ih
theorem KT.Sx{H:Hp}{aC:List (List Key×V)}{xs:List (List Key×Addr×Value)}(r:KT H aC xs)(k:List Key){y:V}{u:Value}(ry:RelV y u):KT H (aC.map λkv=>if kv.1=k then(kv.1,y)else kv) (xs.map (putAt k u)):=by
 induction r with
  |nil=>exact .nil
  |@cons p q ps qs h t ih=>
   rw[List.map_cons,List.map_cons];refine .cons ?_ ih;obtain⟨h1,h2,h3⟩:=h;unfold putAt;by_cases e:p.1=k;·rw[if_pos e,if_pos (h1.symm.trans e)];exact⟨h1,h2,ry⟩
   ·rw[if_neg e,if_neg (λz=>e (h1.trans z))];exact⟨h1,h2,h3⟩
theorem KT.put{H:Hp}{aC:List (List Key×V)}{xs:List (List Key×Addr×Value)}(r:KT H aC xs)(k:List Key){b:Addr}{y:V}{u:Value}(hb:H b=some (.tup (k.map kV)))(ry:RelV y u):KT H (putK aC k y) (storedH xs k b u):=by
 have e:(aC.any λkv=>decide (kv.1=k))=(atKey xs k).isSome:=by rw[hV,(r.val k).lS,Option.isSome_map]
 unfold putK storedH;rw[e];by_cases q:(atKey xs k).isSome=true;·rw[if_pos q,if_pos q];exact r.Sx k ry
 ·rw[if_neg q,if_neg q];exact Paired.snoc r ⟨rfl,hb,ry⟩
theorem KT.keeps{H H':Hp}{aC:List (List Key×V)}{xs:List (List Key×Addr×Value)}(r:KT H aC xs)(ht:∀b ys,H b=some (.tup ys)->H' b=some (.tup ys)):KT H' aC xs:=Paired.Uc r λ_ _ z=>⟨z.1,ht _ _ z.2.1,z.2.2⟩
section
variable{P:Program}{w:World}{H:Hp}{h:Heap}{a:Addr}
theorem QH{u:HO}(ok:hG P w H h)(e:Rd H a u):bV P w H h a u:=e.ok ok
theorem Es{aC:List (Key×V)}(ok:hG P w H h)(e:Rd H a (.dK aC)):aC.length<=sizeLine/\(a==sysModules)=false/\∃vs,KV aC vs/\h.DictOf (cZ P w) a vs:=show bV P w H h a (.dK aC)from QH ok e
theorem Xp{aC:List (Key×V)}(ok:hG P w H h)(e:H a=some (.dK aC)):aC.length<=sizeLine/\(a==sysModules)=false/\∃vs,KV aC vs/\h.DictOf (cZ P w) a vs:=Es ok (.inl e)
theorem yD{ks:List Key}(ok:hG P w H h)(e:H a=some (.tup (ks.map kV))):(tupleKind (cZ P w)).is h ks a:=by obtain⟨_,aI,r,o,h1,h2,n,h3⟩:=(show bV P w H h a (.tup (ks.map kV))from ok a _ e);exact⟨o,aI.toArray,n,h1,h2,h3,by simpa using xE r⟩
theorem EX{aC:List (List Key×V)}(ok:hG P w H h)(e:Rd H a (.dT aC)):aC.length<=sizeLine/\(a==sysModules)=false/\∃xs,KT H aC xs/\h.DictOfH (tupleKind (cZ P w)) a xs:=by
 obtain⟨z,y,xs,r,o,es,ep,h1,h2,h3,h4,h5⟩:=(show bV P w H h a (.dT aC)from QH ok e);refine⟨z,y,xs,r,o,es,ep,h1,h2,h3,h4,λx hx=>?_,h5⟩;have all:∀{l:List (List Key×V)}{m:List (List Key×Addr×Value)},KT H l m->∀x∈m,(tupleKind (cZ P w)).is h x.1 x.2.1:=by
  intro l m q;induction q with
   |nil=>intro x hx;exact nomatch hx
   |@cons p q ps qs hq t ih=>
    intro x hx;rcases List.mem_cons.mp hx with e|hx;·subst e;exact yD ok (by rw[<-hq.1];exact hq.2.1)
    ·exact ih x hx
 exact all r x hx
theorem Yb{aC:List (List Key×V)}(ok:hG P w H h)(e:H a=some (.dT aC)):aC.length<=sizeLine/\(a==sysModules)=false/\∃xs,KT H aC xs/\h.DictOfH (tupleKind (cZ P w)) a xs:=EX ok (.inl e)
end
noncomputable def Cq(H:Hp)(a:Addr)(y:V)(r:Option V):Prop:=(∃aC k,Rd H a (.dK aC)/\y=kV k/\r=dG aC k)\/∃aC k b,Rd H a (.dT aC)/\y= .ref b/\H b=some (.tup (k.map kV))/\r=dG aC k
noncomputable def M5(H:Hp)(a:Addr)(y v:V)(H':Hp):Prop:=(∃aC k,H a=some (.dK aC)/\y=kV k/\aC.length<sizeLine/\H'=upd H a (.dK (putK aC k v)))\/∃aC k b,H a=some (.dT aC)/\y= .ref b/\H b=some (.tup (k.map kV))/\aC.length<sizeLine/\H'=upd H a (.dT (putK aC k v))
theorem Cq.k{H:Hp}{a:Addr}{aC:List (Key×V)}{k:Key}(e:H a=some (.dK aC)):Cq H a (kV k) (dG aC k):= .inl ⟨aC,k, .inl e,rfl,rfl⟩
theorem M5.k{H:Hp}{a:Addr}{aC:List (Key×V)}{k:Key}{v:V}(e:H a=some (.dK aC))(hl:aC.length<sizeLine):M5 H a (kV k) v (upd H a (.dK (putK aC k v))):= .inl ⟨aC,k,e,rfl,hl,rfl⟩
section
variable{X:Cx}{pins:List (Addr×Obj)}{σ:St}{H:Hp}{s:Shared}{a:Addr}{y v:V}{u r:Value}{o:Option V}{A:Around}{E:Value->Shared->Prop}
theorem Inv.big(I:Inv X pins σ H s):sysModules<s.heap.objs.size:=by have h:mainGlobals<s.heap.objs.size:=(I.mod.glob.keeps I.bk).lt;exact Nat.lt_trans (by decide) h
theorem JU{Q:Value->Shared->Prop}(hu:A.units+1<cLine)(I:Inv X pins σ H s)(g:Cq H a y (some v))(ry:RelV y u)(h:∀w' s',Inv X pins σ H s'->RelV v w'->Q w' s'):wpAny (model X.prog X.w) A (getItem (.ref a) u) Q E s:=by
 rcases g with⟨aC,k,e,ey,l⟩|⟨aC,k,b,e,ey,eb,l⟩;·subst ey;obtain⟨z,hd,vs,rel,dd⟩:=Es I.bJ e;obtain⟨w',hw,uX⟩:=wt.some_of (v:=v) (o:=valueAt vs k) (by rw[l];exact rel.val k);exact wpAny_getItem_of (DY ry) dd.mapOf hw (h w' _ (I.tok _) uX)
 ·subst ey;cases(show u=Value.ref b from ry);obtain⟨z,hd,xs,rel,dd⟩:=EX I.bJ e;obtain⟨w',hw,uX⟩:=wt.some_of (v:=v) (o:=(atKey xs k).map (·.2)) (by rw[l];exact rel.val k);obtain⟨p,hp,Ck⟩:=Option.map_eq_some_iff.mp hw;refine wpAny_getItem_heap (tupleKind_room_in1 hu) (yD I.bJ eb) dd hp ?_;rw[Ck];exact h w' _ (I.tok _) uX
theorem acr{Q:Value->Shared->Prop}(hu:A.units+1<cLine)(I:Inv X pins σ H s)(g:Cq H a y o)(ry:RelV y u)(h:∀s',Inv X pins σ H s'->Q (.bool o.isSome) s'):wpAny (model X.prog X.w) A (compareOp .In u (.ref a)) Q E s:=by
 rcases g with⟨aC,k,e,ey,l⟩|⟨aC,k,b,e,ey,eb,l⟩;·subst ey;obtain⟨z,hd,vs,rel,dd⟩:=Es I.bJ e;refine wpAny_in_of (DY ry) hd dd.mapOf ?_;rw[<-(rel.val k).lS,<-l];exact h _ (I.tok _)
 ·subst ey;cases(show u=Value.ref b from ry);obtain⟨z,hd,xs,rel,dd⟩:=EX I.bJ e;refine wpAny_in_heap (tupleKind_room_in1 hu) (yD I.bJ eb) hd dd ?_;have q:=(rel.val k).lS;rw[Option.isSome_map]at q;rw[<-q,<-l];exact h _ (I.tok _)
theorem Gp{h':Heap}{t':Nat}{ob:HO}(I:Inv X pins σ H s)(mu:YA (H a))(hs:Heap.SameBut a s.heap h')(he:∃q,h'.get? a=some q)(new:bV X.prog X.w (upd H a ob) h' a ob):Inv X pins σ (upd H a ob) {s with heap:=h',toks:=t'}:=I.write (x:=a) (e:=a) mu (.inl rfl) (λb q hb z=>(hs.2 b hb).trans z) he new
theorem Um{P:Program}{w:World}{H':Hp}{h':Heap}{aC:List (Key×V)}{vs:List (Key×Value)}(z:aC.length<=sizeLine)(hd:(a==sysModules)=false)(rel:KV aC vs)(dd:h'.DictOf (cZ P w) a vs):bV P w H' h' a (.dK aC):=⟨z,hd,vs,rel,dd⟩
theorem JJ{H':Hp}{Q:Unit->Shared->Prop}(hu:A.units+1<cLine)(I:Inv X pins σ H s)(g:M5 H a y v H')(ry:RelV y u)(rv:RelV v r)(h:∀s',Inv X pins σ H' s'->Q () s'):wpAny (model X.prog X.w) A (setItem (.ref a) u r) Q E s:=by
 rcases g with⟨aC,k,e,ey,l,eH⟩|⟨aC,k,b,e,ey,eb,l,eH⟩
 ·subst ey eH;obtain⟨z,hd,vs,rel,dd⟩:=Xp I.bJ e;have hz:vs.length<=sizeLine:=by rw[<-rel.length];exact z
  have hl:(putK aC k v).length<=sizeLine:=by have :=mW aC k v;omega
  refine wpAny_setItem_pairs (hsz:=hz) (DY ry) dd λh' dd' hs=>h _ ?_;have he:∃q,h'.get? a=some q:=let⟨q,_,_,hq,_⟩:=dd';⟨q,hq⟩;exact Gp I (by rw[e];exact True.intro) hs he (Um hl hd (rel.put k rv) dd')
 ·subst ey eH;cases(show u=Value.ref b from ry);obtain⟨z,hd,xs,rel,dd⟩:=Yb I.bJ e;have hz:xs.length<=sizeLine:=by rw[<-Paired.length rel];exact z
  have hl:(putK aC k v).length<=sizeLine:=by have :=mW aC k v;omega
  refine wpAny_setItem_heap (hsz:=hz) (tupleKind_room_in1 hu) (yD I.bJ eb) dd λh' dd' hs=>h _ ?_;obtain⟨q,es,ep,hq,h2,h3,h4,_,h5⟩:=dd';refine Gp I (by rw[e];exact True.intro) hs ⟨q,hq⟩ ⟨hl,hd,_,(rel.put k eb rv).keeps λc ys ec=>?_,q,es,ep,hq,h2,h3,h4,h5⟩;rw[aX (Qr ec e (λz=>nomatch z))];exact ec
end
section
variable{X:Cx}{pins:List (Addr×Obj)}{σ:St}{H:Hp}{s:Shared}{a:Addr}{aC:List (Key×V)}{k:Key}{u:Value}{A:Around}{E:Value->Shared->Prop}
end
noncomputable def UN(i:Expr):Prop:=∀ov iv,subscripted i false ov iv=operate [ov,iv] (getItem ov iv)
theorem G8{prog:Program}{w:World}{A:Around}{E:Value->Shared->Prop}{s:Shared}{env:Env}{value slice:Expr}{pos:Pos}{T id:String}{Q:Value->Shared->Prop}(hl:typeLookup (.type T) "__getitem__"=pure (some (.builtin id)))(hs:UN slice)(h:wpAny (model prog w) A (eval value env) (λo bK=>wpAny (model prog w) A (eval slice env) (λi lH=>lH.TypeIs o T/\wpAny (model prog w) A (getItem o i) Q E lH) E bK) E s):wpAny (model prog w) A (eval (.Subscript value slice pos) env) Q E s:=by
 refine Subscript_ (wpAny_mono h (λo bK h₁=>wpAny_mono h₁ (λi lH CI=>?_) λ_ _ x=>x) λ_ _ x=>x);obtain⟨hT,CI⟩:=CI;unfold subscriptTail;refine wpAny_bind ?_;rw[getitemInPython_of_ne hT.not_modules];refine wpAny_bind (wpAny_specialOf hT hl ?_);have fin:wpAny (model prog w) A (subscripted slice false o i) (λr AB=>wpAny (model prog w) A (letTemporaryGo value o r>>=λ_=>pure r) Q E AB) E lH:=by rw[hs o i];exact wpAny_operating (wpAny_mono CI (λr AB Qg=>wpAny_bind (wpAny_letTemporaryGo (wpAny_pure Qg))) λ_ _ x=>x)
 first|exact wpAny_pure (wpAny_bind fin)|exact wpAny_bind (wpAny_pure (wpAny_bind fin))|exact wpAny_bind fin
theorem Ce{X:Cx}{pins:List (Addr×Obj)}{σ:St}{H:Hp}{s:Shared}{a:Addr}{y:V}{o:Option V}(I:Inv X pins σ H s)(g:Cq H a y o):s.TypeIs (.ref a) "dict":=by
 rcases g with⟨aC,k,e,_,_⟩|⟨aC,k,b,e,_,_,_⟩;·obtain⟨_,_,vs,_,dd⟩:=Es I.bJ e;exact dd.typeIs
 ·obtain⟨_,_,xs,_,dd⟩:=EX I.bJ e;exact dd.typeIs
noncomputable def YD(td ty:TE):TE:=λσ H Q=>td σ H λx H1=>ty σ H1 λy H2=>∃a v,x= .ref a/\Cq H2 a y (some v)/\Q v H2
noncomputable def acB(ty td:TE):TE:=λσ H Q=>ty σ H λy H1=>td σ H1 λx H2=>∃a o,x= .ref a/\Cq H2 a y o/\Q (.bl o.isSome) H2
noncomputable def WV(td ty tv:TE):TS:=λD σ H=>tv σ H λv H1=>td σ H1 λx H2=>ty σ H2 λy H3=>∃a H4,x= .ref a/\M5 H3 a y v H4/\D.nx σ H4
section
variable{X:Cx}{o i e value:Expr}{pos pos' Lq:Pos}{td ty tv:TE}
theorem PQ(hu:X.A.units+1<cLine)(ho:PE X o td)(hi:PE X i ty)(hs:UN i):PE X (.Subscript o i pos) (YD td ty):=by intro pins s σ H Q I h;refine G8 PySem.F.slot_dict_getitem.lookup hs (bG (ho pins s σ H _ I h) λu s1⟨x,H1,I1,rx,q1⟩=>bG (hi pins s1 σ H1 _ I1 q1) λiv s2⟨y,H2,I2,ry,a,v,ex,g,q2⟩=>?_);subst ex;obtain rfl:u=Value.ref a:=rx;exact⟨Ce I2 g,JU hu I2 g ry λw' s3 I3 uX=>⟨v,H2,I3,uX,q2⟩⟩
theorem Sm(hu:X.A.units+1<cLine)(hi:PE X i ty)(ho:PE X o td):PC X .In i o (acB ty td):=by intro pins s σ H Q I h;refine bG (hi pins s σ H _ I h) λiv s1⟨y,H1,I1,ry,q1⟩=>bG (ho pins s1 σ H1 _ I1 q1) λu s2⟨x,H2,I2,rx,a,ov,ex,g,q2⟩=>?_;subst ex;obtain rfl:u=Value.ref a:=rx;exact acr hu I2 g ry λs3 I3=>⟨.bl ov.isSome,H2,I3,rfl,q2⟩
theorem P7(hu:X.A.units+1<cLine)(ho:PE X o td)(hi:PE X i ty)(hv:PE X value tv)(hs:swapsWith value (some (.Subscript o i pos')) pos.line X.env=pure false):PS X (.Assign [.Subscript o i pos'] value pos) (WV td ty tv):=by intro pins s σ H D I h;refine wpAny_Assign_Subscript (bG (hv pins s σ H _ I h) λr s1⟨v,H1,I1,rv,q1⟩=>bG (ho pins s1 σ H1 _ I1 q1) λu s2⟨x,H2,I2,rx,q2⟩=>bG (hi pins s2 σ H2 _ I2 q2) λiv s3⟨y,H3,I3,ry,a,H4,ex,g,q3⟩=>?_) hs;subst ex;obtain rfl:u=Value.ref a:=rx;exact JJ hu I3 g ry rv λs4 I4=>⟨σ,H4,I4,q3⟩
end
theorem Mu{P:Program}{w:World}{H:Hp}(h:Heap)(hb:sysModules<h.objs.size):bV P w H (h.push {cls:= .type "dict",data:= .dict #[]}) h.objs.size (.dK []):=⟨Nat.zero_le _,beq_eq_false_iff_ne.mpr (Ne.symm (Nat.ne_of_lt hb)),[], .nil,Heap.DictOf.new h⟩
noncomputable def Uu:TE:=λ_ H Q=>∀p,H p=none->Q (.ref p) (upd H p (.dK []))
section
variable{X:Cx}{pos:Pos}
theorem Mq:PE X (.Dict [] [] pos) Uu:=λpins s σ H Q I h=>wpAny_Dict_empty ⟨.ref s.heap.objs.size,_,I.laid (a:=s.heap.objs.size) (o:= .dK []) (t':=s.toks) (λ_ _ q=>Heap.get?_push_of_some _ q) (Nat.le_refl _) (Mu s.heap I.big),rfl,h _ (I.bJ.fresh (Nat.le_refl _))⟩
end
noncomputable def K7:List (TE×TE)->St->Hp->(List (V×V)->Hp->Prop)->Prop|[],_,H,Q=>Q [] H|(tk,tv)::r,σ,H,Q=>tk σ H λx H1=>tv σ H1 λy H2=>K7 r σ H2 λps H3=>Q ((x,y)::ps) H3
noncomputable abbrev VV:List (V×V)->List (Value×Value)->Prop:=Paired λp q=>RelV p.1 q.1/\RelV p.2 q.2
noncomputable def nj(X:Cx)(pos:Pos)(keys:List (Option Expr))(values:List Expr)(trs:List (TE×TE)):Prop:=∀(pins:List (Addr×Obj))(s:Shared)(σ:St)(H:Hp)(Q:List (V×V)->Hp->Prop),Inv X pins σ H s->K7 trs σ H Q->wpAny (model X.prog X.w) X.A (evalPairs (pairTrees keys values X.env pos)) (λvs s'=>∃ps H',Inv X pins σ H' s'/\VV ps vs/\Q ps H') X.xe s
structure M1(X:Cx)(o:Expr)(m:Str)(apos:Pos)(e:Expr)(dR:Pos):Prop where
 base:attributeBase o m X.env (eval o X.env)=eval o X.env
 few:((backTo dR (starEach [e] X.env)).all (λx=>!x.1)&&(backToKw dR (keywordEach [] X.env)).all (λx=>x.1.isSome)&&decide (([e]:List Expr).length+([]:List Keyword).length+(if([]:List Keyword).isEmpty then 0 else 1)<30))=true
 line:(apos.endLine==dR.line)=true
 trees:backTo dR (starEach [e] X.env)=[(false,eval e X.env)]
structure M2(X:Cx)(o:Expr)(m:Str)(apos:Pos)(e f:Expr)(dR:Pos):Prop where
 base:attributeBase o m X.env (eval o X.env)=eval o X.env
 few:((backTo dR (starEach [e,f] X.env)).all (λx=>!x.1)&&(backToKw dR (keywordEach [] X.env)).all (λx=>x.1.isSome)&&decide (([e,f]:List Expr).length+([]:List Keyword).length+(if([]:List Keyword).isEmpty then 0 else 1)<30))=true
 line:(apos.endLine==dR.line)=true
 trees:backTo dR (starEach [e,f] X.env)=[(false,eval e X.env),(false,eval f X.env)]
section
variable{X:Cx}{pins:List (Addr×Obj)}{σ:St}{H:Hp}{s:Shared}{a:Addr}{y d:V}{u r:Value}{o:Option V}{A:Around}{E:Value->Shared->Prop}
end
section
variable{X:Cx}{o e f:Expr}{apos dR:Pos}{td ty tx:TE}
end
section
variable{X:Cx}{pins:List (Addr×Obj)}{σ:St}{H:Hp}{s:Shared}{a:Addr}{aC:List (Key×V)}{A:Around}{E:Value->Shared->Prop}
end
section
variable{X:Cx}{pins:List (Addr×Obj)}{σ:St}{H:Hp}{s:Shared}{a:Addr}{y:V}{u:Value}{A:Around}{E:Value->Shared->Prop}
end
end L2
namespace Att
open PySem PySem.W PySem.Calls PyProof.Rows
theorem nq{P:Params}{h:Heap}:∀(ns:List Int)(vs:List Value),WellAll P h vs (ns.map WData.int)->IntsAre vs ns:=by intro ns;induction ns with|nil=>intro vs w;rw[List.map_nil]at w;cases w;exact .nil|cons n ns ih=>intro vs w;rw[List.map_cons]at w;cases w with|cons a b=>cases a;exact .cons _ _ (ih _ b)
theorem JP{l:OpenLaw}{n:Nat}(hn:l.most=some n){P:Params}{h:Heap}{args:List WData}{vals:List Value}(OT:l.row.toRowW.claim.pre args=true)(hwl:WellAll P h vals args):∃a vs ns,vals=[Value.ref a]/\args=[WData.list (ns.map WData.int)]/\h.get? a=some {cls:= .type "list",data:= .seq vs.toArray}/\IntsAre vs ns/\ns.length<=n:=by
 have hsh:WShape.hasAll [] args [.list .int]=true:=(pre_splitW OT).1;have hc:l.pre.holds [] {args:=args}=true:=(pre_splitW OT).2;obtain⟨d,r,rfl,h1,h2⟩:=hasAllW_cons hsh;obtain rfl:=hasAllW_nil h2;obtain⟨xs,rfl,h3⟩:=hasW_list h1;obtain⟨ns,rfl⟩:=items_int h3;have hlen:ns.length<=n:=by
  unfold OpenLaw.pre at hc;have h4:(WTm.not (.lt (.lit (.int (n:Int))) (.len (.arg 0)))).holds [] {args:=[.list (ns.map .int)]}=true:=by have h4:=(holds_andW hc).1;rw[hn]at h4;exact h4
  have h5:=condW_of h4 (w_not (w_lt w_lit (w_len_list (w_arg rfl))));rw[List.length_map]at h5;refine Nat.le_of_not_lt λq=>?_;have q':(n:Int)<((ns.length:Nat):Int):=by omega
  first|(rw[decide_eq_true q']at h5;exact absurd h5 (by decide))|(simp at h5;omega)
 cases hwl with|cons w1 w2=>cases w2;cases w1 with|list ho abn=>exact⟨_,_,ns,rfl,rfl,ho,nq ns _ abn,hlen⟩
theorem Jv(l:OpenLaw)(args:List WData):l.row.toRowW.claim.post args (.bool true) args=true:=postW_of (r:=l.row.toRowW) (X:=(true==true)) (show WShape.has [] (.bool true) .bool=true by first|rfl|decide|simp[WShape.has,WShape.arms,WShape.armsAll]) (show(WTm.eq .res (.lit (.bool true))).value [] {args:=args,res:=some (.bool true),after:=args}=some (.bool (true==true))from w_eq_bool (w_res rfl) w_lit) rfl
theorem Cb{l:OpenLaw}{n:Nat}{q:Program}{loose:List Str}{XP:(Str->Option Value)->Heap->Prop}{YP:World->Heap->Prop}{d:DefRec}(hn:l.most=some n)(ZX:d.params.defaults=[])(call:∀(w:World)(bO bK:Shared)(mg mb:Str->Option Value)(fa:Addr)(o:Obj)(pm cd doc:Value)(a:Addr)(vs:List Value)(ns:List Int),Ground q loose [] XP w bO mg mb bK.heap->YP w bK.heap->bK.heap.get? fa=some o->o.data= .func (docDef d.name d.params d.body d.scope pm cd doc)->bK.heap.CodeRec cd d.name->mg d.name=some (.ref fa)->bK.heap.get? a=some {cls:= .type "list",data:= .seq vs.toArray}->IntsAre vs ns->ns.length<=n->bK.gens=#[]->codeAny (model l.prog w) callerA (.call (.ref fa) ⟨[.ref a],[]⟩) (λr s'=>r= .ok (.ret (.bool true))/\OldK bK.heap s'.heap/\s'.os=bK.os/\AllBare s'.gens) bK):WalkO q loose XP YP l.row.toRowW d [] (λf vs=>PySem.call f vs):=by intro w bO bK mg mb G Y fa o pm cd doc dV kV ho hd wN hD hmg hg args vals as OT acK hrd hwl hlo;obtain rfl:dV= .none:=Dflts.none hD ZX;obtain rfl:kV= .none:=Dflts.noKw hD;obtain⟨a,vs,ns,rfl,rfl,Va,hints,hlen⟩:=JP hn OT hwl;refine enter_call (codeAny_mono (call w bO bK mg mb fa o pm cd doc a vs ns G Y ho (fd_plain hd) wN hmg Va hints hlen hg) λr s' hq=>?_);obtain⟨rfl,h2,h3,h4⟩:=hq;exact⟨.inl ⟨.bool true, .bool true,[],rfl,λ_=>rfl, .bool true,Jv l _,λ_=>⟨List.Pairwise.nil,λ_ hm=>(nomatch hm)⟩⟩,h2,h3,h4⟩
section
variable{prog:Program}{w:World}{A:Around}{E:Value->Shared->Prop}{s:Shared}{K:Frag}
end
end Att
namespace L2
open PySem PySem.Spec PyProof.Rows
theorem xr:∀{vs:List Value}{ns:List Int},IntsAre vs ns->Vals (ns.map V.int) vs|_,_, .nil=> .nil|_,_, .cons n t h=> .cons ⟨t,rfl⟩ (xr h)
end L2
namespace L2
open PySem PySem.Spec PyProof.Rows
noncomputable abbrev KOf{K:PySem.W.Frag}{h:Heap}(_:K.In h):PySem.W.Frag:=K
end L2
namespace L2
open PySem PySem.Spec PyProof.Rows
noncomputable def inClass(s:Stmt)(j:Nat):Stmt:=match s with| .ClassDef _ _ _ body _ _ _ _ _ _ _=>body.getD j (.Pass ⟨0,0,0,0⟩)|_=> .Pass ⟨0,0,0,0⟩
noncomputable def ak(s:Stmt):Arguments:=match s with| .FunctionDef _ a _ _ _ _ _ _ _ _=>a|_=>{posonlyargs:=[],args:=[],vararg:=none,kwonlyargs:=[],kw_defaults:=[],kwarg:=none,defaults:=[]}
noncomputable def ai(s:Stmt):List Stmt:=match s with| .FunctionDef _ _ b _ _ _ _ _ _ _=>b|_=>[]
noncomputable def ae(s:Stmt):Scope:=match s with| .FunctionDef _ _ _ _ _ _ sc _ _ _=>sc|_=>{kind:= .function,names:=[],isGenerator:=false,isCoroutine:=false}
noncomputable abbrev b_:nH:=λ_ _ _ _ _ _ _=>False
noncomputable abbrev E0:XK:=λ_ _ _=>False
theorem aU{X:Cx}:Passes b_ X E0:=λ_ _ _ _ _ _ _ h=>h.elim
structure Qn(K:PySem.W.Frag)(x qual:Str)(st:Stmt)(f:Addr)(fd:FuncData):Prop where
 ex:∃(oc:Value)(od:Option Addr)(kV doc pm:Value)(an:Option Addr)(cM ct:Value)(BG:Array (Option Value)),fd=PySem.W.fnOf x qual (ak st) (ai st) (ae st) .none kV doc pm an cM ct/\K.lookup f=some ⟨oc,od, .func fd,BG⟩/\PySem.W.codeIn K cM qual=true
 kp:PySem.W.keepIn K (.ref f)=true
section
variable{P:Program}{w:World}{K:PySem.W.Frag}{mg:Str->Option Value}{base:Heap}
theorem Qn.ok{x qual:Str}{st:Stmt}{f:Addr}{fd:FuncData}{N ps:List Str}{k:Nat}{sp:Sp}(F:Qn K x qual st f fd)(S:aK N ps (ae st))(len:∀vs H Q E,sp vs H Q E->vs.length=ps.length)(eE:∀(cM:Value)(A:Around)(outer:List Env)(s:Shared)(H:Hp)(vs:List V)(Q:VK)(E:XK),cI k (A.deeper (envOfC qual (ae st) s.heap.objs.size f cM))->sp vs H Q E->∃t,eM (dZ b_ P w K mg base N qual (ae st) f cM A outer s H E).Ka (ai st) t/\t {nx:=λ_ H'=>Q .ba H',rt:=Q} (start N vs) H):wZ P w K mg base b_ (k+1) f fd ps sp:=by obtain⟨oc,od,kV,doc,pm,an,cM,ct,BG,rfl,lk,wN⟩:=F.ex;refine Ep lk wN S len λA outer s H vs Q E hr Ay=>?_;obtain⟨t,h,q⟩:=eE cM A outer s H vs Q E hr Ay;exact⟨t,h.Ka,q⟩
theorem Qn.binds{x qual:Str}{st:Stmt}{f:Addr}{fd:FuncData}{ps:List Str}(F:Qn K x qual st f fd)(h:∀(kV doc pm:Value)(an:Option Addr)(cM ct:Value)(us:List Value),us.length=ps.length->bindArgs (PySem.W.fnOf x qual (ak st) (ai st) (ae st) .none kV doc pm an cM ct) ⟨us,[]⟩=pure (ps.zip us)):Binds K fd ps []:=by obtain⟨oc,od,kV,doc,pm,an,cM,ct,BG,rfl,lk,wN⟩:=F.ex;exact .all (h kV doc pm an cM ct)
theorem Lk{x qual:Str}{st:Stmt}{f:Addr}{oc:Value}{od an:Option Addr}{BG:Array (Option Value)}{kV doc pm cM ct:Value}(l:K.lookup f=some ⟨oc,od, .func (PySem.W.fnOf x qual (ak st) (ai st) (ae st) .none kV doc pm an cM ct),BG⟩)(c:PySem.W.codeIn K cM qual=true)(k:PySem.W.keepIn K (.ref f)=true):Qn K x qual st f (PySem.W.fnOf x qual (ak st) (ai st) (ae st) .none kV doc pm an cM ct):=⟨⟨oc,od,kV,doc,pm,an,cM,ct,BG,rfl,l,c⟩,k⟩
end
theorem N5{A:Around}{k:Nat}(hr:cI k A):A.units+1<cLine:=Nat.lt_of_le_of_lt (Nat.add_le_add_left (by decide:1<=64) _) hr.units
section
variable{X:Cx}
theorem pv(i:Nat){x:Str}{pos:Pos}(hN:X.N[i]?=some x:=by rfl)(hv:VS X.env.scope x:=by first|exact Or.inl rfl|exact Or.inr (Or.inl rfl)|exact Or.inr (Or.inr rfl))(hd:(x==("__debug__":Str))=false:=by decide)(wN:(x==("__classdict__":Str))=false:=by decide):PE X (.Name x pos) (V9 i):=N4 hN hv hd wN
end
theorem nI{A B:Prop}(h:B):if false=true then A else B:=by rw[if_neg Bool.false_ne_true];exact h
theorem AI{A B:Prop}(h:A):if true=true then A else B:=by rw[if_pos rfl];exact h
theorem aZ{c A B:Prop}[Decidable c](h1:c->A)(h2:¬c->B):if c then A else B:=by
 by_cases h:c;·rw[if_pos h];exact h1 h
 ·rw[if_neg h];exact h2 h
noncomputable def aA(H H':Hp):Prop:=∀b o,H b=some o->H' b=some o
theorem aA.refl(H:Hp):aA H H:=λ_ _ h=>h
theorem aA.trans{H H1 H2:Hp}(a:aA H H1)(b:aA H1 H2):aA H H2:=λc o h=>b c o (a c o h)
theorem aA.free{H H':Hp}(e:aA H H'){l:Addr}(h:H' l=Option.none):H l=Option.none:=by cases q:H l with|none=>rfl|some o=>rw[e l o q]at h;cases h
end L2
namespace L2
open PySem PySem.Spec PyProof.Rows
section
variable{X:Cx}
end
section
variable{κ:Type}[DecidableEq κ]
theorem PU{aC:List (κ×V)}{k:κ}{v:V}(h:dG aC k=some v):k∈aC.map (·.1):=by
 have q:(aC.any λkv=>decide (kv.1=k))=true:=by rw[hV,h];all_goals rfl
 obtain⟨p,hp,e⟩:=List.any_eq_true.mp q;exact List.mem_map.mpr ⟨p,hp,of_decide_eq_true e⟩
end
end L2
end
section
namespace L3
open PySem PySem.Spec PyProof.Rows L2
noncomputable def du(env:Env):List (Str×NameKind)->List (Str×Addr)->List (Str×Addr)|[],cs=>cs|(n,k)::r,cs=>du env r (if(k== .free)=true then(n,(env.cells.lookup n).getD 0)::cs else cs)
theorem vW{env:Env}{scope:Scope}(h:∀x∈scope.names,x.2= .free->∃c,env.cells.lookup x.1=some c):closureFor scope env=pure (du env scope.names []):=by
 unfold closureFor;have go:∀(l:List (Str×NameKind))(cs:List (Str×Addr)),(∀x∈l,x.2= .free->∃c,env.cells.lookup x.1=some c)->(forIn l cs λ(x:Str×NameKind)(r:List (Str×Addr))=>if(x.2== .free)=true then(do let a<-cellOf env x.1;pure (ForInStep.yield ((x.1,a)::r)))else pure (ForInStep.yield r):Sem (List (Str×Addr)))=pure (du env l cs):=by
  intro l;induction l with
   |nil=>intro cs _;rfl
   |cons x l ih=>
    intro cs hl;obtain⟨n,k⟩:=x;have hr:∀y∈l,y.2= .free->∃c,env.cells.lookup y.1=some c:=λy hy=>hl y (List.mem_cons_of_mem _ hy);rw[List.forIn_cons,du];by_cases hk:(k==NameKind.free)=true
    ·obtain⟨c,hc⟩:=hl (n,k) List.mem_cons_self (by simpa using hk);have hc:env.cells.lookup n=some c:=hc;have e:cellOf env n=pure c:=by unfold cellOf;rw[hc]
     simp only[hk,if_true,e,pure_bind,hc,Option.getD_some];exact ih _ hr
    ·simp only[hk,if_false,pure_bind];exact ih _ hr
 have q:=go scope.names [] h;simp only[bind_pure];exact q
theorem lB{env:Env}{x:Str}:∀(l:List (Str×NameKind))(cs:List (Str×Addr)),(∃c,cs.lookup x=some c)->∃c,(du env l cs).lookup x=some c
 |[],_,h=>h
 |(n,k)::r,cs,h=>by
  rw[du];refine lB r _ ?_;by_cases hk:(k==NameKind.free)=true;·rw[if_pos hk,List.lookup_cons];cases x==n with|true=>exact⟨_,rfl⟩|false=>exact h
  ·rw[if_neg hk];exact h
theorem il{env:Env}{x:Str}:∀(l:List (Str×NameKind))(cs:List (Str×Addr)),(x,NameKind.free)∈l->∃c,(du env l cs).lookup x=some c
 |[],_,h=>by cases h
 |(n,k)::r,cs,h=>by
  rw[du];rcases List.mem_cons.mp h with e|h;·cases e;refine lB r _ ?_;rw[if_pos (by decide),List.lookup_cons,beq_self_eq_true];exact⟨_,rfl⟩
  ·exact il r _ h
theorem jj{env:Env}:∀(l:List (Str×NameKind))(cs:List (Str×Addr)),(∀x∈l,x.2= .free->∃c,env.cells.lookup x.1=some c)->(∀x c,cs.lookup x=some c->env.cells.lookup x=some c)->∀x c,(du env l cs).lookup x=some c->env.cells.lookup x=some c
 |[],_,_,h=>h
 |(n,k)::r,cs,hl,h=>by
  rw[du];refine jj r _ (λy hy=>hl y (List.mem_cons_of_mem _ hy)) λx c e=>?_;by_cases hk:(k==NameKind.free)=true
  ·rw[if_pos hk,List.lookup_cons]at e;cases hx:x==n with
    |true=>
     rw[hx]at e;obtain rfl:x=n:=by simpa using hx
     obtain⟨c',jg⟩:=hl (x,k) List.mem_cons_self (by simpa using hk);have jg:env.cells.lookup x=some c':=jg;rw[jg]at e⊢;exact e
    |false=>rw[hx]at e;exact h x c e
  ·rw[if_neg hk]at e;exact h x c e
theorem kO{env:Env}:∀{l:List (Str×NameKind)}{x:Str},l.lookup x=some .free->(l.map λ(p:Str×NameKind)=>if(p.2==NameKind.free&&env.scope.kind== .function&&env.kindOf p.1==some .cell)then(p.1,NameKind.cell)else(p.1,p.2)).lookup x=some .cell\/(l.map λ(p:Str×NameKind)=>if(p.2==NameKind.free&&env.scope.kind== .function&&env.kindOf p.1==some .cell)then(p.1,NameKind.cell)else(p.1,p.2)).lookup x=some .free
 |[],_,h=>by simp at h
 |(n,k)::r,x,h=>by
  have ih:=@kO env r x;rw[List.lookup_cons]at h;rw[List.map_cons];by_cases hc:(k==NameKind.free&&env.scope.kind== .function&&env.kindOf n==some .cell)=true;·simp only[hc,if_true];rw[List.lookup_cons];cases hx:x==n with|true=>exact .inl rfl|false=>rw[hx]at h;exact ih h
  ·simp only[hc,Bool.false_eq_true,if_false];rw[List.lookup_cons];cases hx:x==n with|true=>rw[hx]at h;exact .inr h|false=>rw[hx]at h;exact ih h
theorem u7{env:Env}:∀{l:List (Str×NameKind)}{x:Str},(∀y∈l,y.2≠ .cell)->((l.map λ(p:Str×NameKind)=>if(p.2==NameKind.free&&env.scope.kind== .function&&env.kindOf p.1==some .cell)then(p.1,NameKind.cell)else(p.1,p.2)).lookup x=some .cell\/(l.map λ(p:Str×NameKind)=>if(p.2==NameKind.free&&env.scope.kind== .function&&env.kindOf p.1==some .cell)then(p.1,NameKind.cell)else(p.1,p.2)).lookup x=some .free)->(x,NameKind.free)∈l
 |[],_,_,h=>by simp at h
 |(n,k)::r,x,hl,h=>by
  have ih:=@u7 env r x λy hy=>hl y (List.mem_cons_of_mem _ hy);rw[List.map_cons]at h;by_cases hc:(k==NameKind.free&&env.scope.kind== .function&&env.kindOf n==some .cell)=true
  ·simp only[hc,if_true]at h;rw[List.lookup_cons]at h;cases hx:x==n with
    |true=>
     obtain rfl:x=n:=by simpa using hx
     have :k= .free:=by simp only[Bool.and_eq_true]at hc;simpa using hc.1.1
     rw[this];exact List.mem_cons_self
    |false=>rw[hx]at h;exact List.mem_cons_of_mem _ (ih h)
  ·simp only[hc,Bool.false_eq_true,if_false]at h;rw[List.lookup_cons]at h;cases hx:x==n with
    |true=>
     rw[hx]at h;obtain rfl:x=n:=by simpa using hx
     rcases h with h|h;·exact absurd (Option.some.inj h) (hl (x,k) List.mem_cons_self)
     ·have :k= .free:=Option.some.inj h;rw[this];exact List.mem_cons_self
    |false=>rw[hx]at h;exact List.mem_cons_of_mem _ (ih h)
noncomputable abbrev DM(X:Cx)(scope:Scope)(C:Addr):Env:=compEnvC scope (du X.env scope.names []) C X.env
noncomputable abbrev c7(X:Cx)(N':List Str)(scope:Scope)(s3:Shared)(H3:Hp)(fp:List Addr):Cx:={X with N:=N',bO:=s3,H₀:=H3,env:=DM X scope s3.heap.objs.size,outer:=X.stack,stack:=X.stack,ex:=fp,fn:=λ_=>false,pn:=X.pn,xe:=λ_ _=>False}
noncomputable def fG(own:Nat)(fr:List Nat)(σ:L2.St):L2.St:=List.replicate own none++fr.map λi=>(σ[i]?).join
structure kM(X:Cx)(N':List Str)(own:Nat)(fr:List Nat)(scope:Scope):Prop where
 kind:scope.kind= .function
 l9:∀y∈scope.names,y.2≠ .cell
 loc:∀x∈scope.names,x.2= .local->scope.names.lookup x.1=some .local
 free:∀x∈scope.names,x.2= .free->X.env.kindOf x.1=some .cell\/X.env.kindOf x.1=some .free
 len:N'.length=own+fr.length
 fr:∀j i,fr[j]?=some i->∃x,N'[own+j]?=some x/\X.N[i]?=some x/\scope.names.lookup x=some .free
theorem vF{fs ex:List Addr}{H H':Hp}{h h1 h2:Heap}{C:Addr}(u:Un fs ex H H' h h1)(hC:h.objs.size<=C)(hs:Heap.SameBut C h1 h2):Un fs ex H H' h h2:=by
 have ne:∀b o,h.get? b=some o->b≠C:=λb o e=>Nat.ne_of_lt (Nat.lt_of_lt_of_le (Heap.lt_size e) hC);refine⟨λb o e n hb hx=>(hs.2 b (ne b o e)).trans (u.keep b o e n hb hx),λb o e n hb hx=>?_,u.free,λb o e hx=>?_,u.uW,u.nA,u.m_⟩;·obtain⟨sl,q⟩:=u.slot b o e n hb hx;exact⟨sl,(hs.2 b (ne b o e)).trans q⟩
 ·obtain⟨o',q⟩:=u.there b o e hx;exact⟨o',(hs.2 b (ne b o e)).trans q⟩
theorem A6{P:Program}{w:World}{H:Hp}{h h2:Heap}{C:Addr}(k:hG P w H h)(hC:H C=none)(hs:Heap.SameBut C h h2):hG P w H h2:=λb ob e=>by
 refine(k b ob e).j3 (λc w' hc q=>(hs.2 c ?_).trans q) (λ_ q=>q) λ_ _ q=>q;rintro rfl;rcases hc with rfl|hc;·rw[hC]at e;cases e
 ·rw[hC]at hc;cases hc
noncomputable def lr(Y:Cx)(ifs:List Expr)(tt:TT):Prop:=∀(pins:List (Addr×Obj))(s:Shared)(σ:L2.St)(H:Hp)(Q:Bool->Hp->Prop),Inv Y pins σ H s->tt σ H Q->wpAny (model Y.prog Y.w) Y.A (forIn ifs true λc r=>if r=true then do let ok<-isTrue c Y.env (eval c Y.env);pure (ForInStep.yield ok)else pure (ForInStep.yield r)) (TP Y pins σ Q) Y.xe s
noncomputable def CW:TT:=λ_ H Q=>Q true H
theorem tG{Y:Cx}:lr Y [] CW:=λ_ _ _ H _ I h=>wpAny_tests_nil ⟨H,I,h⟩
theorem O4{Y:Cx}{c:Expr}{t:TT}(h:PT Y c t):lr Y [c] t:=λpins s σ H Q I hq=>wpAny_tests_one (h pins s σ H Q I hq)
section
variable{prog:Program}{w:World}{A:Around}{R:Result->Shared->Prop}{s:Shared}
theorem ma{elt target iter:Expr}{ifs:List Expr}{scope:Scope}{pos:Pos}{it acc:Value}{env:Env}(J:Nat->Shared->Prop)(turn:∀n s,J n s->wpAny (model prog w) A (pyNext it) (λr bK=>match r with|none=>R (.ok .next) bK|some v=>wpAny (model prog w) A (letOwnedTupleGo target it v) (λ_ bO=>wpAny (model prog w) A (assign target env v) (λ_ lH=>wpAny (model prog w) A (forIn ifs true λc r=>if r=true then do let ok<-isTrue c env (eval c env);pure (ForInStep.yield ok)else pure (ForInStep.yield r)) (λok AB=>if ok=true then wpAny (model prog w) A (eval elt env) (λx Xm=>wpAny (model prog w) A (call (.builtin "list.append") [acc,x]) (λ_ WJ=>∃m,m<n/\J m WJ) (λ_ _=>False) Xm) (λ_ _=>False) AB else∃m,m<n/\J m AB) (λ_ _=>False) lH) (λ_ _=>False) bO) (λ_ _=>False) bK) (λ_ _=>False) s)(n:Nat)(h:J n s):codeAny (model prog w) A (.compLoop (.ListComp elt [⟨target,iter,ifs,0⟩] scope pos) 0 it acc env) R s:=by refine codeAny_loop rfl J (λn s hJ=>?_) n h;show wpAny _ A ((compTurn (.ListComp elt [⟨target,iter,ifs,0⟩] scope pos) 0 it acc env).onRaise (λx=>do noteFrame x env;theTreesLotGoes x)) _ _ s;refine wpAny_noted ?_;rw[compTurn_list];have no:∀{α:Type}{m:Sem α}{Q:α->Shared->Prop}{E':Value->Shared->Prop}{s':Shared},wpAny (model prog w) A m Q (λ_ _=>False) s'->wpAny (model prog w) A m Q E' s':=λhm=>wpAny_mono hm (λ_ _ q=>q) λ_ _ f=>f.elim;refine wpAny_bind (wpAny_standAt (wpAny_bind (no (wpAny_mono (turn n s hJ) (λr bK h₁=>?_) λ_ _ h'=>h'))));cases r with|none=>exact wpAny_pure h₁|some v=>refine wpAny_bind (no (wpAny_mono h₁ (λ_ bO h₀=>wpAny_bind (no (wpAny_mono h₀ (λ_ lH CI=>wpAny_bind (no (wpAny_mono CI (λok AB Qg=>?_) λ_ _ h'=>h'))) λ_ _ h'=>h'))) λ_ _ h'=>h'));cases ok with|false=>exact wpAny_pure ⟨rfl,Qg⟩|true=>exact wpAny_bind (wpAny_bind (no (wpAny_mono Qg (λx Xm abV=>wpAny_bind (no (wpAny_mono abV (λ_ WJ aaw=>wpAny_pure (wpAny_pure ⟨rfl,aaw⟩)) λ_ _ h'=>h'))) λ_ _ h'=>h')))
end
noncomputable def Own(own:Nat)(g:TG):Prop:=∀v σ H Q,g v σ H Q->g v σ H λje H4=>Q je H4/\je.length=σ.length/\∀i,own<=i->je[i]?=σ[i]?
theorem jJ{own i:Nat}(h:i<own):Own own (vZ i):=λv σ H Q q=>⟨q,by simp,λj hj=>List.getElem?_set_ne (by omega)⟩
theorem Kz{own i j n:Nat}{K:PySem.W.Frag}(hi:i<own)(hj:j<own):Own own (Wl K n (Ki (vZ i) (Ki (vZ j) XX))):=by intro v σ H Q q;obtain⟨a,xs,e1,e2,e3,x,r,e4,y,r',e5,e6,q⟩:=q;refine⟨a,xs,e1,e2,e3,x,r,e4,y,r',e5,e6,q,by simp,λk hk=>?_⟩;rw[List.getElem?_set_ne (by omega),List.getElem?_set_ne (by omega)]
noncomputable def QA(own:Nat)(fr:List Nat)(wi:TI)(g:TG)(tt:TT)(te:TE):TE:=λσ H Q=>wi σ H λJ H1=>∀p,H1 p=none->∃W:Nat->Nat->List V->Hp->Prop,(∃m,W 0 m [] (upd H1 p (.lst [])))/\∀i m acc H2,W i m acc H2->(J.stop i H2/\Q (.ref p) H2)\/(J.go i H2/\∀x H3,J.Cf i H2 x H3->g x (fG own fr σ) H3 λje H4=>tt je H4 λok H5=>if ok=true then te je H5 λv H6=>H6 p=some (.lst acc)/\acc.length<sizeLine/\∃m',m'<m/\W (i+1) m' (acc++[v]) (upd H6 p (.lst (acc++[v])))else∃m',m'<m/\W (i+1) m' acc H5)
theorem G_{X:Cx}{scope:Scope}{N':List Str}{own:Nat}{fr:List Nat}{pins:List (Addr×Obj)}{σ:L2.St}{H3:Hp}{s3:Shared}{h4:Heap}{fp:List Addr}{t4:Nat}{m:Str->Option Value}(S:kM X N' own fr scope)(I3:Inv X pins σ H3 s3)(WB:∀b∈fp,ku X pins H3 b/\b<s3.heap.objs.size)(keep:∀b o,s3.heap.get? b=some o->h4.get? b=some o)(CT:h4.Ns s3.heap.objs.size m):Inv (c7 X N' scope s3 H3 fp) [] (fG own fr σ) H3 {s3 with heap:=h4,toks:=t4}:=by
 have FG:∀x∈scope.names,x.2= .free->∃c,X.env.cells.lookup x.1=some c:=λx hx e=>I3.ok.has x.1 (S.free x hx e);have snd:∀x c,(du X.env scope.names []).lookup x=some c->X.env.cells.lookup x=some c:=jj _ _ FG λx c e=>by simp at e
 have ok:(c7 X N' scope s3 H3 fp).Ok:=by
  refine⟨I3.ok.mod,S.kind,I3.ok.glob,I3.ok.blt,Nat.le_refl _,λx y c e1 e2=>I3.ok.inj x y c (snd x c e1) (snd y c e2),λx hx=>il _ _ (u7 S.l9 hx),λx c z=>(by cases z),I3.ok.hd,I3.ok.frames, .inl rfl,λb hb=>⟨Nat.ne_of_lt (WB b hb).2,λx c e=>(WB b hb).1.2.2.2.2.1 x c (snd x c e)⟩,I3.bs,Nat.le_trans I3.ok.Cz I3.sz,λb o e hb=>?_,λb hb hz=>?_,I3.stack,I3.Aj⟩
  ·rcases(WB b hb).1.2.2.2.1 with z|z;·exact I3.ok.xf b o e z
   ·exact absurd (Nat.lt_of_lt_of_le (Heap.lt_size e) I3.ok.Cz) (Nat.not_lt.mpr z)
  ·rcases List.mem_cons.mp (I3.fi b hz)with z|z;·exact(WB b hb).1.2.1 z
   ·exact(WB b hb).1.2.2.1 z
 refine⟨ok,rfl,I3.bare,Un.kept keep,⟨m,CT,λi x v h1 h2 h3=>?_⟩,λx c e=>?_,I3.bJ.fresh (Nat.le_refl _),λx c e=>I3.dW x c (snd x c e),λp hp=>?_,I3.bJ.kept keep,?_⟩
 ·have h1:N'[i]?=some x:=h1;have hi:¬i<own:=λz=>by unfold fG at h2;rw[List.getElem?_append_left (by simpa using z),List.getElem?_replicate]at h2;split at h2<;>cases h2
  obtain⟨j,rfl⟩:∃j,i=own+j:=⟨i-own,by omega⟩;unfold fG at h2;rw[List.getElem?_append_right (by simp),List.length_replicate,Nat.add_sub_cancel_left,List.getElem?_map]at h2;cases ek:fr[j]? with
   |none=>rw[ek]at h2;cases h2
   |some k=>
    rw[ek]at h2;have h2:(σ[k]?).join=some v:=Option.some.inj h2;have hσ:σ[k]?=some (some v):=by cases q:σ[k]? with|none=>rw[q]at h2;cases h2|some w'=>rw[q]at h2;exact congrArg some h2
    obtain⟨x',e1,e2,e3⟩:=S.fr j k ek;rw[h1]at e1;cases e1;have mem:=PySem.mem_of_lookup e3;have hk:=S.free _ mem rfl;obtain⟨m3,hn3,hl3⟩:=I3.loc;obtain⟨u,r,look⟩:=hl3 k x v e2 hσ (.inr hk);rcases look with⟨q,_⟩|⟨q,c,hc,o,ho,hd⟩
    ·rcases hk with z|z;·have z:X.env.kindOf x=some .cell:=z;rw[z]at q;cases q
     ·have z:X.env.kindOf x=some .free:=z;rw[z]at q;cases q
    ·obtain⟨c',e'⟩:=il (env:=X.env) scope.names [] mem;have e'':=snd x c' e';rw[hc]at e'';cases e'';exact⟨u,r, .inr ⟨kO e3,c,e',o,keep _ _ ho,hd⟩⟩
 ·obtain⟨v,o,ho,hd⟩:=I3.cell x c (snd x c e);exact⟨v,o,keep _ _ ho,hd⟩
 ·obtain⟨q1,q2,q3,q4,q5⟩:=I3.pin p (List.mem_append_left _ (by simpa using hp));refine⟨keep _ _ q1,q2,Nat.ne_of_lt (Heap.lt_size q1),λz=>?_,q5⟩;rcases List.mem_cons.mp (I3.fi _ z)with z|z;·exact q3 z
  ·exact q4 z
 ·show(fG own fr σ).length=N'.length;unfold fG;rw[S.len,List.length_append,List.length_replicate,List.length_map]
theorem uD{X:Cx}{tg iter elt:Expr}{ifs:List Expr}{scope:Scope}{pos:Pos}{wi:TI}{g:TG}{tt:TT}{te:TE}{N':List Str}{own:Nat}{fr:List Nat}(hc:X.calm=true)(S:kM X N' own fr scope)(hi:PI X tg iter wi)(ho:Own own g)(hg:∀s3 H3 fp,PG (c7 X N' scope s3 H3 fp) tg g)(hf:∀s3 H3 fp,lr (c7 X N' scope s3 H3 fp) ifs tt)(he:∀s3 H3 fp,PE (c7 X N' scope s3 H3 fp) elt te)(hs:∀x,foldedSetIterable iter X.env x=pure x:=by intro _;rfl):PE X (.ListComp elt [⟨tg,iter,ifs,0⟩] scope pos) (QA own fr wi g tt te):=by
 intro pins s σ H Q I h;have FG:∀x∈scope.names,x.2= .free->∃c,X.env.cells.lookup x.1=some c:=λx hx e=>I.ok.has x.1 (S.free x hx e);rw[eval_ListComp];refine wpAny_comprehension_free (use:=none) rfl hs (vW FG) S.kind S.loc ?_;refine bG (hi pins s σ H _ I h) λv s1 h1=>bG h1 λitv s2 h2=>?_;obtain⟨it,fp,tn,J,H2,e,I2,T,TU,f2,h2⟩:=h2;subst e;refine wpAny_newObj_type (hd:=by size_fits) (wpAny_newFunctionEnv S.l9 (by intro y hy;simp at hy) (λh4 CT RZ=>?_) S.kind);have TJ:=I2.bJ.fresh (Nat.le_refl s2.heap.objs.size);obtain⟨W,⟨m0,w0⟩,turn⟩:=h2 _ TJ;have I3:Inv X pins σ (upd H2 s2.heap.objs.size (.lst [])) {s2 with heap:=s2.heap.push {cls:= .type "list",dict:=none,data:= .seq ([]:List Value).toArray},toks:=s2.toks}:=I2.Zm .nil (Nat.zero_le _);have Y0:∀b∈fp,b<s2.heap.objs.size:=λb hb=>let⟨o,e,_⟩:=T.obj _ _ TU b hb;Heap.lt_size e;have up2:∀b o,s2.heap.get? b=some o->∀ob:Obj,(s2.heap.push ob).get? b=some o:=λb o e ob=>Heap.get?_push_of_some _ e;have XI:(s2.heap.push {cls:= .type "list",dict:=none,data:= .seq ([]:List Value).toArray}).objs.size=s2.heap.objs.size+1:=Heap.size_push ..;revert CT RZ I3;generalize e3:s2.heap.push {cls:= .type "list",dict:=none,data:= .seq ([]:List Value).toArray}=h3 at XI⊢;intro CT RZ I3;have keep:∀b o,h3.get? b=some o->h4.get? b=some o:=λb o e=>(RZ.2 b (Nat.ne_of_lt (Heap.lt_size e))).trans (Heap.get?_push_of_some _ e);have Tr:∀b∈fp,ku X pins (upd H2 s2.heap.objs.size (.lst [])) b/\b<h3.objs.size:=λb hb=>by refine⟨⟨?_,(f2 b hb).2⟩,by rw[XI];exact Nat.lt_succ_of_lt (Y0 b hb)⟩;rw[aX (Nat.ne_of_lt (Y0 b hb))];exact(f2 b hb).1
 have I4:=G_ (t4:=s2.toks+([]:List (Str×Value)).length) S I3 Tr keep CT;have UI:tn 0 h4:=T.keep _ _ _ TU λb hb o e=>keep b o (by rw[<-e3];exact up2 b o e _);have vN:∀{H':Hp},(∀b∈fp,H' b=none)->∀b∈fp,ku (c7 X N' scope {s2 with heap:=h3,toks:=s2.toks} (upd H2 s2.heap.objs.size (.lst [])) fp) [] H' b:=λ{H'}hn b hb=>⟨hn b hb,Nat.ne_of_lt (Tr b hb).2,λz=>I4.ok.Ah b hb z, .inl hb,(I4.ok.Sd b hb).2,λp hp=>(f2 b hb).2.2.2.2.2 p (List.mem_append_left _ (by simpa using hp))⟩;have loop:∀sx:Shared,Inv (c7 X N' scope {s2 with heap:=h3,toks:=s2.toks} (upd H2 s2.heap.objs.size (.lst [])) fp) [] (fG own fr σ) (upd H2 s2.heap.objs.size (.lst [])) sx->tn 0 sx.heap->codeAny (model X.prog X.w) X.A (.compLoop (.ListComp elt [⟨tg,iter,ifs,0⟩] scope pos) 0 (.ref it) (.ref s2.heap.objs.size) (DM X scope h3.objs.size)) (compPost (model X.prog X.w) X.A X.xe none (EP X pins σ Q) (.ref s2.heap.objs.size) h3.objs.size) sx:=by
  intro sx Ix tx;refine ma (λn s'=>∃i acc H',Inv (c7 X N' scope {s2 with heap:=h3,toks:=s2.toks} (upd H2 s2.heap.objs.size (.lst [])) fp) [] (fG own fr σ) H' s'/\tn i s'.heap/\(∀b∈fp,H' b=none)/\W i n acc H') ?_ m0 ⟨0,[],_,Ix,tx,λb hb=>(Tr b hb).1.1,w0⟩;rintro n s5⟨i,acc,H5,I5,Pu,UL,w5⟩;rcases turn i n acc H5 w5 with⟨stop,qn⟩|⟨go,step⟩;·refine bG (T.done (c7 X N' scope {s2 with heap:=h3,toks:=s2.toks} (upd H2 s2.heap.objs.size (.lst [])) fp) rfl rfl rfl hc i [] s5 _ H5 (λ_ _=>False) I5 (vN UL) Pu stop) λr s6⟨hr,I6⟩=>?_;subst hr;obtain⟨m6,hm6,_⟩:=id I6.loc;refine⟨m6,hm6,λh7 hs7=>⟨.ref s2.heap.objs.size,H5,?_,rfl,qn⟩⟩;exact I3.Mi (s':={s6 with heap:=h7}) (ch:=fp) I6.os (vF I6.base (Nat.le_refl _) hs7) (A6 I6.bJ I6.free hs7) I6.bare λb hb=>⟨(f2 b hb).2.2.2.1,(f2 b hb).2.1,(f2 b hb).2.2.2.2.1,(f2 b hb).2.2.2.2.2⟩
  ·refine bG (T.item (c7 X N' scope {s2 with heap:=h3,toks:=s2.toks} (upd H2 s2.heap.objs.size (.lst [])) fp) rfl rfl rfl hc i [] s5 _ H5 (λ_ _=>False) I5 (vN UL) Pu go) λr s6⟨u,hr,h6⟩=>?_;subst hr;refine bG h6 λ_ s7⟨x,H7,I7,r7,y7,UA,fr7⟩=>?_;have I7':=I7.pinned (vN fr7) (T.obj _ _ UA);refine bG (hg _ _ _ _ s7 _ H7 x u _ I7' r7 (ho _ _ _ _ (step x H7 y7))) λ_ s8⟨PX,H8,I8,q8,l8,k8⟩=>?_;have again:∀{H9:Hp}{s9:Shared},Inv (c7 X N' scope {s2 with heap:=h3,toks:=s2.toks} (upd H2 s2.heap.objs.size (.lst [])) fp) ([]++l6 fp s7.heap) PX H9 s9->Inv (c7 X N' scope {s2 with heap:=h3,toks:=s2.toks} (upd H2 s2.heap.objs.size (.lst [])) fp) [] (fG own fr σ) H9 s9/\tn (i+1) s9.heap/\∀b∈fp,H9 b=none:=λ{H9 s9}I9=>by
    refine⟨I9.iA.weak l8.symm λj v e=>?_,T.keep _ _ _ UA λb hb o e=>(I9.pin (b,o) (List.mem_append_right _ (List.mem_append_right _ (d_ hb e)))).1,λb hb=>?_⟩
    ·have hj:own<=j:=by refine Nat.le_of_not_lt λz=>?_;unfold fG at e;rw[List.getElem?_append_left (by simpa using z),List.getElem?_replicate]at e;split at e<;>cases e
     rw[k8 j hj];exact e
    ·obtain⟨o,e,_⟩:=T.obj _ _ UA b hb;exact(I9.pin (b,o) (List.mem_append_right _ (List.mem_append_right _ (d_ hb e)))).2.1
   refine bG (hf _ _ _ _ s8 PX H8 _ I8 q8) λok s9⟨H9,I9,q9⟩=>?_;cases ok with|false=>obtain⟨m',Jk,w9⟩:=q9;obtain⟨a1,a2,a3⟩:=again I9;exact⟨m',Jk,i+1,acc,H9,a1,a2,a3,w9⟩|true=>refine bG (he _ _ _ _ s9 PX H9 _ I9 q9) λy HS⟨v,Mr,I10,r10,Tz,Vo,m',Jk,w10⟩=>?_;refine bG (lN _ HS PX Mr (.ref s2.heap.objs.size) [v] (.ref s2.heap.objs.size) [y] (λ_ Hn=>Hn=upd Mr s2.heap.objs.size (.lst (acc++[v]))) I10 rfl (.cons r10 .nil) ⟨_,acc,v,rfl,rfl,Tz,Vo,rfl⟩) λ_ N_⟨_,H11,I11,_,e11⟩=>?_;subst e11;obtain⟨a1,a2,a3⟩:=again I11;exact⟨m',Jk,i+1,acc++[v],_,a1,a2,a3,w10⟩
 exact codeAny_compStart_list (loop _ I4 UI) (wpAny_mono (T.self X.A 0 _ (λv s'=>v= .ref it/\s'=_) (λ_ _=>False) UI ⟨rfl,rfl⟩) (λv s'⟨e1,e2⟩=>by subst e1;subst e2;exact loop _ I4 UI) λ_ _ f=>f.elim)
noncomputable def Nx(n i:Nat)(P:Prop):Prop:=∃m',m'<n-i/\m'=n-(i+1)/\i+1<=n/\P
theorem nx{n i:Nat}{P:Prop}(h:i<n)(p:P):Nx n i P:=⟨n-(i+1),by omega,rfl,h,p⟩
theorem ug{J:It}{p:Addr}{H1:Hp}{g:TG}{tt:TT}{te:TE}{b:L2.St}{Q:VK}(n:Nat)(Pv:Nat->List V->Hp->Prop)(h0:Pv 0 [] (upd H1 p (.lst [])))(Kf:∀i acc H2,i<n->Pv i acc H2->J.go i H2/\∀x H3,J.Cf i H2 x H3->g x b H3 λje H4=>tt je H4 λok H5=>if ok=true then te je H5 λv H6=>H6 p=some (.lst acc)/\acc.length<sizeLine/\Nx n i (Pv (i+1) (acc++[v]) (upd H6 p (.lst (acc++[v]))))else Nx n i (Pv (i+1) acc H5))(hd:∀acc H2,Pv n acc H2->J.stop n H2/\Q (.ref p) H2):∃W:Nat->Nat->List V->Hp->Prop,(∃m,W 0 m [] (upd H1 p (.lst [])))/\∀i m acc H2,W i m acc H2->(J.stop i H2/\Q (.ref p) H2)\/(J.go i H2/\∀x H3,J.Cf i H2 x H3->g x b H3 λje H4=>tt je H4 λok H5=>if ok=true then te je H5 λv H6=>H6 p=some (.lst acc)/\acc.length<sizeLine/\∃m',m'<m/\W (i+1) m' (acc++[v]) (upd H6 p (.lst (acc++[v])))else∃m',m'<m/\W (i+1) m' acc H5):=by
 refine⟨λi m acc H=>m=n-i/\i<=n/\Pv i acc H,⟨n,by simp,Nat.zero_le _,h0⟩,?_⟩;rintro i m acc H2⟨rfl,hi,w⟩;by_cases m9:i<n;·exact .inr (Kf i acc H2 m9 w)
 ·obtain rfl:i=n:=by omega
  exact .inl (hd acc H2 w)
end L3
end
section
namespace L3
open PySem L2
section
variable{prog:Program}{w:World}{A:Around}{E:Value->Shared->Prop}{s:Shared}
end
structure lD(z TI TO i1 i2:Nat)(f1 f2:List Nat):Prop where
 TIz:TI≠z
 TOz:TO≠z
 TITO:TI≠TO
 TI1:TI≠i1
 TI2:TI≠i2
 TO1:TO≠i1
 TO2:TO≠i2
 i1z:i1≠z
 i2z:i2≠z
 zf1:z∉f1
 zf2:z∉f2
 Tf1:TO∉f1
 Tf2:TO∉f2
 abO:i2∉f1
 aav:i1∉f2
section
variable{prog:Program}{w:World}{A:Around}{E:Value->Shared->Prop}{s:Shared}
variable{z TI TO i1 i2:Addr}{f1 f2:List Addr}{n1 n2:Nat}{P1 P2:Nat->Value->Prop}{S1 S2:Nat->Heap->Prop}
theorem JT{i:Nat}{a b:Value}{Q:Value->Shared->Prop}(D1:Draws prog w A i1 f1 n1 P1 S1)(D2:Draws prog w A i2 f2 n2 P2 S2)(ap:lD z TI TO i1 i2 f1 f2)(gz:IsZip s.heap z TI TO .none)(R5:IsPair s.heap TI (.ref i1) (.ref i2))(VN:IsPair s.heap TO a b)(s1:S1 i s.heap)(s2:S2 i s.heap)(l1:i<n1)(l2:i<n2)(hQ:∀x y h' tk,P1 i x->P2 i y->IsZip h' z TI TO (rawInt s.heap.objs.size)->IsPair h' TO x y->S1 (i+1) h'->S2 (i+1) h'->IsPair h' s.heap.objs.size x y->(∀c o,c≠z->c≠TO->c≠i1->c≠i2->s.heap.get? c=some o->h'.get? c=some o)->Q (.ref s.heap.objs.size) {s with heap:=h',toks:=tk}):wpAny (model prog w) A (Builtin.«zip.__next__» ⟨[.ref z],[]⟩) (λfin s'=>∃v,fin= .done (.ret v)/\Q v s') E s:=by
 have fr1:∀{k:Nat}{h h':Heap}{c:Addr},c∉f1->Heap.SameBut c h h'->S1 k h->S1 k h':=λ{k h h' c}hc sb st=>D1.frame _ _ _ st λq hq o e=>(sb.2 q λz=>hc (z▸hq)).trans e;have fr2:∀{k:Nat}{h h':Heap}{c:Addr},c∉f2->Heap.SameBut c h h'->S2 k h->S2 k h':=λ{k h h' c}hc sb st=>D2.frame _ _ _ st λq hq o e=>(sb.2 q λz=>hc (z▸hq)).trans e;show wpAny (model prog w) _ (field (.ref z) 2>>=_) _ _ _;refine wpAny_bind (wpAny_field gz rfl (x:= .bool false) rfl ?_);show wpAny (model prog w) _ (field (.ref z) 3>>=_) _ _ _;refine wpAny_bind (wpAny_field gz rfl (x:= .ref TI) rfl ?_);refine wpAny_bind (wpAny_seqItems R5 rfl ?_);show wpAny (model prog w) _ (Builtin.SmallTypes.ownedTupleIsFree (.ref z)>>=_) _ _ _;refine wpAny_bind ?_;unfold Builtin.SmallTypes.ownedTupleIsFree;refine wpAny_bind (wpAny_field gz rfl (x:= .none) rfl (wpAny_pure ?_));simp only[if_true];refine wpAny_bind (wpAny_rule ?_);refine wpAny_bind (wpAny_field gz rfl (x:= .ref TO) rfl ?_);refine wpAny_bind (wpAny_setField_rec gz (by simp) λk1 z1 b1=>?_);replace z1:IsZip k1 z TI TO .ellipsis:=z1;refine wpAny_bind ?_;simp only[List.zipIdx_cons,List.zipIdx_nil,List.forIn_cons,List.forIn_nil];refine wpAny_bind (wpAny_bind (wpAny_onRaise ?_));show wpAny (model prog w) _ (Builtin.SmallTypes.nextOf (.ref i1)>>=_) _ _ _;refine wpAny_bind (D1.item i _ _ _ l1 (fr1 ap.zf1 b1 s1) λx k2 t2 px q2 b2=>wpAny_pure ?_);have o2:IsPair k2 TO a b:=b2.extBut _ _ ap.TO1 (b1.extBut _ _ ap.TOz VN);refine wpAny_bind (wpAny_seqItems o2 rfl ?_);refine wpAny_bind (wpAny_updateSeq_pair o2 λk3 o3 b3=>?_);replace o3:IsPair k3 TO x b:=o3;refine wpAny_bind (wpAny_letGo (wpAny_pure ?_));refine wpAny_bind (wpAny_bind (wpAny_onRaise ?_));show wpAny (model prog w) _ (Builtin.SmallTypes.nextOf (.ref i2)>>=_) _ _ _;refine wpAny_bind (D2.item i _ _ _ l2 (fr2 ap.Tf2 b3 (fr2 ap.aav b2 (fr2 ap.zf2 b1 s2))) λy k4 t4 py q4 b4=>wpAny_pure ?_);have o4:IsPair k4 TO x b:=b4.extBut _ _ ap.TO2 o3;refine wpAny_bind (wpAny_seqItems o4 rfl ?_);refine wpAny_bind (wpAny_updateSeq_pair o4 λk5 o5 b5=>?_);replace o5:IsPair k5 TO x y:=o5;refine wpAny_bind (wpAny_letGo (wpAny_pure (wpAny_pure ?_)));refine wpAny_bind (wpAny_seqItems o5 rfl ?_);refine wpAny_bind (wpAny_newTuple ?_);have sz:k5.objs.size=s.heap.objs.size:=by rw[b5.1,b4.1,b3.1,b2.1,b1.1]
 have z5:IsZip k5 z TI TO .ellipsis:=b5.extBut _ _ ap.TOz.symm (b4.extBut _ _ ap.i2z.symm (b3.extBut _ _ ap.TOz.symm (b2.extBut _ _ ap.i1z.symm z1)));have kp:∀c o,c≠z->c≠TO->c≠i1->c≠i2->s.heap.get? c=some o->k5.get? c=some o:=λc o c1 c2 c3 c4 e=>b5.extBut _ _ c2 (b4.extBut _ _ c4 (b3.extBut _ _ c2 (b2.extBut _ _ c3 (b1.extBut _ _ c1 e))));have q1':S1 (i+1) k5:=fr1 ap.Tf1 b5 (fr1 ap.abO b4 (fr1 ap.Tf1 b3 q2));have q2':S2 (i+1) k5:=fr2 ap.Tf2 b5 q4;have lz:z<k5.objs.size:=Heap.lt_size z5;show wpAny (model prog w) _ (Builtin.SmallTypes.ownedTupleHandOut (.ref z) (.ref k5.objs.size)>>=_) _ _ _;refine wpAny_bind ?_;unfold Builtin.SmallTypes.ownedTupleHandOut;have z6:IsZip (k5.push {cls:= .type "tuple",data:= .seq #[x,y]}) z TI TO .ellipsis:=Heap.get?_push_of_some _ z5;refine wpAny_bind (wpAny_setField_rec z6 (by simp) λk7 z7 b7=>?_);replace z7:IsZip k7 z TI TO (rawInt k5.objs.size):=z7;refine wpAny_setField_rec z7 (by simp) λk8 z8 b8=>?_;replace z8:IsZip k8 z TI TO (rawInt k5.objs.size):=z8;have up:∀c o,c≠z->k5.get? c=some o->k8.get? c=some o:=λc o c1 e=>b8.extBut _ _ c1 (b7.extBut _ _ c1 (Heap.get?_push_of_some _ e));have t8:IsPair k8 k5.objs.size x y:=b8.extBut _ _ (Nat.ne_of_gt lz) (b7.extBut _ _ (Nat.ne_of_gt lz) (Heap.get?_push_size _ rfl));rw[sz]at z8 t8;refine wpAny_pure ⟨_,rfl,?_⟩;show Q (.ref k5.objs.size) _;rw[sz];exact hQ x y k8 _ px py z8 (up _ _ ap.TOz o5) (D1.frame _ _ _ q1' λq hq o e=>up q o (λz=>ap.zf1 (z▸hq)) e) (D2.frame _ _ _ q2' λq hq o e=>up q o (λz=>ap.zf2 (z▸hq)) e) t8 λc o c1 c2 c3 c4 e=>up c o c1 (kp c o c1 c2 c3 c4 e)
theorem Jw{a b:Value}{Q:Fin->Shared->Prop}(D1:Draws prog w A i1 f1 n1 P1 S1)(ap:lD z TI TO i1 i2 f1 f2)(gz:IsZip s.heap z TI TO .none)(R5:IsPair s.heap TI (.ref i1) (.ref i2))(VN:IsPair s.heap TO a b)(s1:S1 n1 s.heap)(hE:∀h' e,(∀c o,c≠z->c≠TO->c≠i1->c≠i2->s.heap.get? c=some o->h'.get? c=some o)->(∃o,h'.get? e=some o/\o.cls= .type "StopIteration")->E (.ref e) {s with heap:=h'}):wpAny (model prog w) A (Builtin.«zip.__next__» ⟨[.ref z],[]⟩) Q E s:=by
 show wpAny (model prog w) _ (field (.ref z) 2>>=_) _ _ _;refine wpAny_bind (wpAny_field gz rfl (x:= .bool false) rfl ?_);show wpAny (model prog w) _ (field (.ref z) 3>>=_) _ _ _;refine wpAny_bind (wpAny_field gz rfl (x:= .ref TI) rfl ?_);refine wpAny_bind (wpAny_seqItems R5 rfl ?_);show wpAny (model prog w) _ (Builtin.SmallTypes.ownedTupleIsFree (.ref z)>>=_) _ _ _;refine wpAny_bind ?_;unfold Builtin.SmallTypes.ownedTupleIsFree;refine wpAny_bind (wpAny_field gz rfl (x:= .none) rfl (wpAny_pure ?_));simp only[if_true];refine wpAny_bind (wpAny_rule ?_);refine wpAny_bind (wpAny_field gz rfl (x:= .ref TO) rfl ?_);refine wpAny_bind (wpAny_setField_rec gz (by simp) λk1 z1 b1=>?_);replace z1:IsZip k1 z TI TO .ellipsis:=z1;refine wpAny_bind ?_;simp only[List.zipIdx_cons,List.zipIdx_nil,List.forIn_cons,List.forIn_nil];refine wpAny_bind (wpAny_bind (wpAny_onRaise ?_));show wpAny (model prog w) _ (Builtin.SmallTypes.nextOf (.ref i1)>>=_) _ _ _;refine wpAny_bind (D1.done _ _ _ (D1.frame _ _ _ s1 λq hq o e=>(b1.2 q λy=>ap.zf1 (y▸hq)).trans e) λk2 e b2 he=>?_);obtain⟨oe,ee,ce⟩:=he;have z2:IsZip k2 z TI TO .ellipsis:=b2 _ _ ap.i1z.symm z1;have nz:e≠z:=λq=>by subst q;rw[z2]at ee;cases ee;simp at ce
 refine wpAny_setField_rec z2 (by simp) λk3 _ b3=>hE k3 e (λc o c1 _ c3 _ q=>b3.extBut _ _ c1 (b2 _ _ c3 (b1.extBut _ _ c1 q))) ⟨oe,b3.extBut _ _ nz ee,ce⟩
theorem Jz{i:Nat}{a b:Value}{Q:Option Value->Shared->Prop}(D1:Draws prog w A.in1 i1 f1 n1 P1 S1)(D2:Draws prog w A.in1 i2 f2 n2 P2 S2)(ap:lD z TI TO i1 i2 f1 f2)(gz:IsZip s.heap z TI TO .none)(R5:IsPair s.heap TI (.ref i1) (.ref i2))(VN:IsPair s.heap TO a b)(s1:S1 i s.heap)(s2:S2 i s.heap)(l1:i<n1)(l2:i<n2)(hQ:∀x y h' tk,P1 i x->P2 i y->IsZip h' z TI TO (rawInt s.heap.objs.size)->IsPair h' TO x y->S1 (i+1) h'->S2 (i+1) h'->IsPair h' s.heap.objs.size x y->(∀c o,c≠z->c≠TO->c≠i1->c≠i2->s.heap.get? c=some o->h'.get? c=some o)->Q (some (.ref s.heap.objs.size)) {s with heap:=h',toks:=tk}):wpAny (model prog w) A (pyNext (.ref z)) Q E s:=by have ty:s.TypeIs (.ref z) "zip":=⟨_,gz,rfl⟩;unfold pyNext;refine wpAny_bind (wpAny_attempt (wpAny_callSpecial?_slot (name:=Str.ofString "__next__") ty F.slot_zip_next (wpAny_call_entry F.slot_zip_next ty F.entry_zip_next ?_ (F.args_zip_next_1 _))));exact JT D1 D2 ap gz R5 VN s1 s2 l1 l2 λx y h' tk a1 a2 a3 a4 a5 a6 a7 a8=>wpAny_pure (hQ x y h' tk a1 a2 a3 a4 a5 a6 a7 a8)
theorem JM{a b:Value}{Q:Option Value->Shared->Prop}(D1:Draws prog w A.in1 i1 f1 n1 P1 S1)(ap:lD z TI TO i1 i2 f1 f2)(gz:IsZip s.heap z TI TO .none)(R5:IsPair s.heap TI (.ref i1) (.ref i2))(VN:IsPair s.heap TO a b)(s1:S1 n1 s.heap)(hQ:∀h',(∀c o,c≠z->c≠TO->c≠i1->c≠i2->s.heap.get? c=some o->h'.get? c=some o)->Q none {s with heap:=h'}):wpAny (model prog w) A (pyNext (.ref z)) Q E s:=by have ty:s.TypeIs (.ref z) "zip":=⟨_,gz,rfl⟩;unfold pyNext;refine wpAny_bind (wpAny_attempt (wpAny_callSpecial?_slot (name:=Str.ofString "__next__") ty F.slot_zip_next (wpAny_call_entry F.slot_zip_next ty F.entry_zip_next (Jw D1 ap gz R5 VN s1 λh' e hk he=>?_) (F.args_zip_next_1 _))));obtain⟨o,ho,hc⟩:=he;refine wpAny_bind (wpAny_isInstance (T:="StopIteration") (b:=true) ⟨o,ho,hc⟩ isSubtype_stop (wpAny_pure (hQ _ hk)))
end
section
variable{prog:Program}{w:World}{A:Around}{E:Value->Shared->Prop}{s:Shared}
end
end L3
end
section
namespace L3
open PySem PySem.Spec PyProof.Rows L2
section
variable{X:Cx}{pins:List (Addr×Obj)}{σ:L2.St}{H:Hp}{s:Shared}{h':Heap}
theorem xq{t':Nat}{ch:List Addr}{T:Addr}{o:HO}(I:Inv X pins σ H s)(k:∀b ob,b∉ch->s.heap.get? b=some ob->h'.get? b=some ob)(hf:∀b∈ch,ku X pins H b)(hT:s.heap.objs.size<=T)(new:bV X.prog X.w (upd H T o) h' T o):Inv X pins σ (upd H T o) {s with heap:=h',toks:=t'}:=by
 have hn:H T=none:=I.bJ.fresh hT;have CN:∀b u,H b=some u->b∉ch:=λb u e z=>by rw[(hf b z).1]at e;cases e
 refine I.step (g':=s.gens) (d':=s.drawn) (ch:=ch) (λb hb=>⟨(hf b hb).2.2.2.1,(hf b hb).2.1,(hf b hb).2.2.2.2.1,(hf b hb).2.2.2.2.2⟩) (λb ob _ _ hc e _=>k b ob hc e) (λb ob _ _ hc e _=>⟨ob.slots,k b ob hc e⟩) (λb ob _ e n=>by rw[aX (Nat.ne_of_lt (Nat.lt_of_lt_of_le (Heap.lt_size e) hT))];exact n) (λb ob hc e=>⟨ob,k b ob hc e⟩) (λb xs e=>by rw[aX (aQ e hn)];exact e) (λb ob u e=>by rw[aX (aQ e hn)];exact e) (λb ps e=>(by rw[aX (aQ e hn),e])) (λm hm=>?_) (λb u e=>?_) I.bare;·obtain⟨ob,es,ep,ho,r⟩:=hm;exact⟨ob,es,ep,k _ ob (λz=>(hf _ z).2.1 rfl) ho,r⟩
 ·by_cases hb:b=T;·subst hb;rw[av]at e;cases e;exact new
  ·rw[aX hb]at e;refine(I.bJ b u e).j3 (λc v hc q=>k c v ?_ q) (λc q=>by rw[aX (aQ q hn)];exact q) λc xs q=>by rw[aX (aQ q hn)];exact q
   rcases hc with z|z;·rw[z];exact CN b u e
   ·exact CN c _ z
theorem Gf{t':Nat}{ch:List Addr}(I:Inv X pins σ H s)(k:∀b ob,b∉ch->s.heap.get? b=some ob->h'.get? b=some ob)(hf:∀b∈ch,ku X pins H b):Inv X pins σ H {s with heap:=h',toks:=t'}:=by
 have CN:∀b u,H b=some u->b∉ch:=λb u e z=>by rw[(hf b z).1]at e;cases e
 refine I.step (g':=s.gens) (d':=s.drawn) (ch:=ch) (λb hb=>⟨(hf b hb).2.2.2.1,(hf b hb).2.1,(hf b hb).2.2.2.2.1,(hf b hb).2.2.2.2.2⟩) (λb ob _ _ hc e _=>k b ob hc e) (λb ob _ _ hc e _=>⟨ob.slots,k b ob hc e⟩) (λb ob _ e n=>n) (λb ob hc e=>⟨ob,k b ob hc e⟩) (λb xs e=>e) (λb ob u e=>e) (λb ps e=>(by rw[e])) (λm hm=>?_) (λb u e=>?_) I.bare;·obtain⟨ob,es,ep,ho,r⟩:=hm;exact⟨ob,es,ep,k _ ob (λz=>(hf _ z).2.1 rfl) ho,r⟩
 ·refine(I.bJ b u e).j3 (λc v hc q=>k c v ?_ q) (λ_ q=>q) λ_ _ q=>q;rcases hc with z|z;·rw[z];exact CN b u e
  ·exact CN c _ z
end
structure acI(a b z TI TO i1 i2:Addr)(i:Nat)(h:Heap):Prop where
 z:IsZip h z TI TO .none
 TI:IsPair h TI (.ref i1) (.ref i2)
 TO:∃u v,IsPair h TO u v
 i1:h.IsTupleIter i1 a i
 i2:h.IsTupleIter i2 b i
end L3
end
section
namespace L3
open PySem PySem.Spec PyProof.Rows L2
section
variable{X:Cx}
theorem iF:jl X (.builtin "isinstance") (λxs H Q=>∃x t n b,xs=[x, .ty n]/\jz X.K H x t/\PySem.W.kitOne X.K t (.type n)=some b/\Q (.bl b) H):=by intro pins s σ H xs us Q I r h;obtain⟨x,t,n,b,rfl,ty,e,q⟩:=h;obtain⟨u,v,rfl,ru,rv⟩:=r.two;obtain rfl:v=Value.type n:=rv;exact JC I ru ty e λtk=>⟨.bl b,H,I.tok tk,rfl,q⟩
end
structure jE(K:PySem.W.Frag)(a:Addr)(D:List (Str×V)):Prop where
 sys:(a==sysModules)=false
 ex:∃o es ep,K.lookup a=some o/\o.ExactDict/\o.data= .dict es ep/\KTD.Rows RelV es.toList D
section
variable{X:Cx}{pins:List (Addr×Obj)}{σ:L2.St}{H:Hp}{s:Shared}{a:Addr}{D:List (Str×V)}{k:Str}{tk:Tok}{A:Around}{E:Value->Shared->Prop}
theorem jE.typeIs(T:jE X.K a D)(I:Inv X pins σ H s):s.TypeIs (.ref a) "dict":=let⟨o,_,_,e,x,_⟩:=T.ex;⟨o,I.iY a o e,x.1⟩
theorem zQ{Q:Option Value->Shared->Prop}(T:jE X.K a D)(I:Inv X pins σ H s)(h1:∀v u,KTD.datumAt k D=some v->RelV v u->Q (some u) {s with toks:=s.toks+1})(h2:KTD.datumAt k D=none->Q none {s with toks:=s.toks+1}):wpAny (model X.prog X.w) A (dictGet a (.str k tk)) Q E s:=by
 obtain⟨_,o,es,ep,ek,_,ed,er⟩:=T;have eo:=I.iY a o ek;unfold dictGet;try with_reducible refine wpAny_holding ?_
 have ea:(es.all λe=>isExactStrKey e.key)=true:=by obtain⟨l⟩:=es;simpa using er.exact
 refine wpAny_bind (wpAny_pyHash_str (wpAny_bind (KTD.kt_dictFind_strs (s:={s with toks:=s.toks+1}) eo ed ea ?_)));have fq:Q (findBy (λk v=>v.isStr k) es k) {s with toks:=s.toks+1}:=by
  have ef:findBy (λk v=>v.isStr k) es k=(es.toList.find? λe=>e.key.isStr k).map (·.val):=by obtain⟨l⟩:=es;simp[findBy]
  rw[ef];cases Vz:KTD.datumAt k D with|some d=>obtain⟨v,hv,hr⟩:=er.find_some Vz;rw[hv];exact h1 d v Vz hr|none=>rw[er.find_none Vz];exact h2 Vz
 rw[findBy_of_findIdx?]at fq;cases hi:es.findIdx? λe=>e.key.isStr k with|none=>rw[hi]at fq;exact wpAny_pure fq|some i=>rw[hi]at fq;exact wpAny_bind (wpAny_dictEntries (s:={s with toks:=s.toks+1}) eo ed (wpAny_pure fq))
theorem N0{Q:Value->Shared->Prop}{v:V}(T:jE X.K a D)(I:Inv X pins σ H s)(hd:KTD.datumAt k D=some v)(h:∀u,RelV v u->Q u {s with toks:=s.toks+1}):wpAny (model X.prog X.w) A (getItem (.ref a) (.str k tk)) Q E s:=by
 have ty:=T.typeIs I;unfold getItem;try with_reducible refine wpAny_holding ?_
 refine wpAny_bind (wpAny_sequenceKey ty (by decide) ?_);refine wpAny_bind (wpAny_callSpecial?_slot (name:=Str.ofString "__getitem__") ty slot_dict_getitem (wpAny_call_entry slot_dict_getitem ty entry_dict_getitem ?_ (args_dict_getitem _ _)));show wpAny (model X.prog X.w) _ (dictGet a (.str k tk)>>=_) _ _ s;refine wpAny_bind (zQ T I (λv' u e r=>?_) λhn=>?_);·rw[hd]at e;cases e;exact wpAny_pure ⟨u,rfl,wpAny_pure (h u r)⟩
 ·rw[hd]at hn;cases hn
end
section
variable{X:Cx}
noncomputable def abA(K:PySem.W.Frag):R2:=λx y H Q=>∃a D k v,x= .ref a/\y= .str k/\jE K a D/\KTD.datumAt k D=some v/\Q v H
theorem SA{o i:Expr}{pos:Pos}{td ty:TE}(ho:PE X o td)(hi:PE X i ty)(hs:UN i):PE X (.Subscript o i pos) (Yg (abA X.K) td ty):=by intro pins s σ H Q I h;refine G8 PySem.F.slot_dict_getitem.lookup hs (bG (ho pins s σ H _ I h) λu s1⟨x,H1,I1,rx,q1⟩=>bG (hi pins s1 σ H1 _ I1 q1) λiv s2⟨y,H2,I2,ry,a,D,k,v,ex,ey,T,e,q2⟩=>?_);subst ex ey;cases rx;obtain⟨t,rfl⟩:=ry;exact⟨T.typeIs I2,N0 T I2 e λu r=>⟨v,H2,I2.tok _,r,q2⟩⟩
end
end L3
end
section
namespace KM
open PySem
inductive D where|ba|bl(b:Bool)|int(i:Int)|str(x:Str)|tup(ds:List D)deriving Inhabited
mutual noncomputable def cf:D->Nat| .tup ds=>1+bF ds| .ba=>0| .bl _=>0| .int _=>0| .str _=>0 noncomputable def bF:List D->Nat|[]=>0|d::r=>cf d+bF r end
mutual noncomputable def depth:D->Nat| .tup ds=>1+az ds| .ba=>0| .bl _=>0| .int _=>0| .str _=>0 noncomputable def az:List D->Nat|[]=>0|d::r=>max (depth d) (az r)end
noncomputable def isTup:D->Bool| .tup _=>true|_=>false
noncomputable def tk:D->List D| .tup ds=>ds.filter isTup|_=>[]
noncomputable def lv:Nat->List D->List D|0,l=>l|n+1,l=>lv n (l.flatMap tk)
theorem jm:∀l:List D,bF (l.filter isTup)=bF l|[]=>rfl|d::r=>by have ih:=jm r;cases d<;>simp[isTup,List.filter_cons,bF,cf,ih]
theorem jh:∀l:List D,az (l.filter isTup)=az l|[]=>rfl|d::r=>by have ih:=jh r;cases d<;>simp[isTup,List.filter_cons,az,depth,ih]
theorem vx:∀l r:List D,bF (l++r)=bF l+bF r|[],r=>by simp[bF]|d::l,r=>by simp[bF,vx l r];omega
theorem wq:∀l r:List D,az (l++r)=max (az l) (az r)|[],r=>by simp[az]|d::l,r=>by simp only[List.cons_append,az,wq l r];exact(Nat.max_assoc _ _ _).symm
theorem LU:∀d:D,isTup d=true->cf d=1+bF (tk d)| .tup ds,_=>by simp[cf,tk,jm]
theorem B8:∀d:D,isTup d=true->depth d=1+az (tk d)| .tup ds,_=>by simp[depth,tk,jh]
theorem Qd(d:D):∀x∈tk d,isTup x=true:=by cases d<;>simp[tk]
theorem uV:∀l:List D,(∀x∈l,isTup x=true)->bF l=l.length+bF (l.flatMap tk)|[],_=>rfl|d::r,h=>by have h1:=uV r λx hx=>h x (List.mem_cons_of_mem _ hx);have h2:=LU d (h d List.mem_cons_self);simp only[List.flatMap_cons,vx,bF,List.length_cons];omega
theorem jv:∀l:List D,(∀x∈l,isTup x=true)->l≠[]->az l=1+az (l.flatMap tk)|[],_,h=>(h rfl).elim|[d],h,_=>by have h2:=B8 d (h d List.mem_cons_self);simp only[List.flatMap_cons,List.flatMap_nil,List.append_nil,az];omega|d::e::r,h,_=>by have h1:=jv (e::r) (λx hx=>h x (List.mem_cons_of_mem _ hx)) (by simp);have h2:=B8 d (h d List.mem_cons_self);rw[List.flatMap_cons,wq];have h3:az (d::e::r)=max (depth d) (az (e::r)):=rfl;omega
theorem lK(l:List D):∀x∈l.flatMap tk,isTup x=true:=by intro x hx;obtain⟨d,_,h⟩:=List.mem_flatMap.mp hx;exact Qd d x h
theorem Kh:∀n,lv n []=[]|0=>rfl|n+1=>by rw[lv,List.flatMap_nil];exact Kh n
theorem pH:∀n l,lv (n+1) l=(lv n l).flatMap tk|0,l=>rfl|n+1,l=>by rw[lv,pH n,<-lv]
theorem Ez:∀n l,(∀x∈l,isTup x=true)->∀x∈lv n l,isTup x=true|0,_,h=>h|n+1,l,_=>Ez n _ (lK l)
noncomputable def fb:Nat->List D->Nat|0,_=>0|n+1,l=>fb n l+(lv n l).length
theorem vP:∀n l,fb (n+1) l=l.length+fb n (l.flatMap tk)|0,l=>by simp[fb,lv]|n+1,l=>by have :=vP n l;simp only[fb]at this⊢;rw[show lv (n+1) l=lv n (l.flatMap tk)from rfl];omega
theorem jx:∀n l,(∀x∈l,isTup x=true)->bF l=fb n l+bF (lv n l)|0,l,_=>by simp[fb,lv]|n+1,l,h=>by have h1:=uV l h;have h2:=jx n (l.flatMap tk) (lK l);rw[vP,show lv (n+1) l=lv n (l.flatMap tk)from rfl];omega
theorem vH:∀n l,(∀x∈l,isTup x=true)->(lv n l=[]↔az l<=n)
 |0,l,h=>by
  cases l with
   |nil=>simp[lv,az]
   |cons d r=>
    have :=jv (d::r) h (by simp);simp only[lv];constructor;·intro q;cases q
    ·intro q;omega
 |n+1,l,h=>by cases l with|nil=>simp[Kh,az]|cons d r=>have h1:=jv (d::r) h (by simp);have h2:=vH n ((d::r).flatMap tk) (lK _);rw[show lv (n+1) (d::r)=lv n ((d::r).flatMap tk)from rfl,h2];omega
theorem vL(n:Nat)(l:List D)(h:∀x∈l,isTup x=true):fb n l<=bF l:=by have :=jx n l h;omega
theorem IP(l:List D)(h:∀x∈l,isTup x=true):(fb 40 l<=600/\lv 40 l=[])↔(bF l<=600/\az l<=40):=by
 rw[vH 40 l h];have e:=jx 40 l h;constructor;·rintro⟨h1,h2⟩;rw[(vH 40 l h).mpr h2]at e;simp only[bF]at e;exact⟨by omega,h2⟩
 ·rintro⟨h1,h2⟩;exact⟨by omega,h2⟩
end KM
end
section
namespace L3
open PySem PySem.Spec PyProof.Rows L2 KM
mutual/--v stands for d on the heap H -/noncomputable def Rep(H:Hp):D->V->Prop| .ba,v=>v= .ba| .bl b,v=>v= .bl b| .int i,v=>v= .int i| .str x,v=>v= .str x/\x.length<=1000| .tup ds,v=>∃a vs,v= .ref a/\H a=some (.tup vs)/\bu H ds vs noncomputable def bu(H:Hp):List D->List V->Prop|[],vs=>vs=[]|d::ds,vs=>∃v r,vs=v::r/\Rep H d v/\bu H ds r end
mutual theorem Rep.mono{H H':Hp}(h:aA H H'):∀{d:D}{v:V},Rep H d v->Rep H' d v| .ba,_,r=>r| .bl _,_,r=>r| .int _,_,r=>r| .str _,_,r=>r| .tup _,_,⟨a,vs,e,q,r⟩=>⟨a,vs,e,h _ _ q,bu.mono h r⟩theorem bu.mono{H H':Hp}(h:aA H H'):∀{ds:List D}{vs:List V},bu H ds vs->bu H' ds vs|[],_,r=>r|_::_,_,⟨v,r,e,q,t⟩=>⟨v,r,e,Rep.mono h q,bu.mono h t⟩end
theorem bu.length{H:Hp}:∀{ds:List D}{vs:List V},bu H ds vs->vs.length=ds.length|[],_,r=>by have r:_=[]:=r;rw[r];rfl|_::_,_,⟨v,r,e,q,t⟩=>by rw[e,List.length_cons,List.length_cons,bu.length t]
theorem bu.get{H:Hp}:∀{ds:List D}{vs:List V}{i:Nat}{d:D},bu H ds vs->ds[i]?=some d->∃v,vs[i]?=some v/\Rep H d v|[],_,_,_,_,e=>by simp at e|d::_,_,0,_,⟨v,r,e,q,t⟩,h=>by simp at h;subst h;exact⟨v,by rw[e];rfl,q⟩|_::ds,_,i+1,d,⟨v,r,e,q,t⟩,h=>by obtain⟨u,h1,h2⟩:=bu.get (i:=i) t (by simpa using h);exact⟨u,by rw[e];simpa using h1,h2⟩
theorem bu.get'{H:Hp}{ds:List D}{vs:List V}{i:Nat}{v:V}(r:bu H ds vs)(e:vs[i]?=some v):∃d,ds[i]?=some d/\Rep H d v:=by have hi:i<vs.length:=(List.getElem?_eq_some_iff.mp e).1;rw[r.length]at hi;obtain⟨u,h1,h2⟩:=r.get (d:=ds[i]) (i:=i) (by simp[hi]);rw[e]at h1;cases h1;exact⟨ds[i],by simp[hi],h2⟩
theorem bu.append{H:Hp}:∀{ds es:List D}{vs us:List V},bu H ds vs->bu H es us->bu H (ds++es) (vs++us)|[],_,_,_,r,q=>by have r:_=[]:=r;subst r;exact q|_::_,_,_,_,⟨v,r,e,p,t⟩,q=>by subst e;exact⟨v,r++_,rfl,p,bu.append t q⟩
theorem bu.one{H:Hp}{d:D}{v:V}(r:Rep H d v):bu H [d] [v]:=⟨v,[],rfl,r,rfl⟩
noncomputable def tyD:D->String| .ba=>"NoneType"| .bl _=>"bool"| .int _=>"int"| .str _=>"str"| .tup _=>"tuple"
theorem Rep.ty{K:PySem.W.Frag}{H:Hp}:∀{d:D}{v:V},Rep H d v->jz K H v (.type (tyD d))| .ba,_,r=>by cases(show _=V.ba from r);exact .ba| .bl b,_,r=>by cases(show _=V.bl b from r);exact .bl b| .int i,_,r=>by cases(show _=V.int i from r);exact .int i| .str x,_,r=>by cases(show _=V.str x from r.1);exact .str x| .tup _,_,⟨a,vs,e,q,_⟩=>by cases e;exact .tup q
noncomputable def aP:D->Bool| .str _=>true|_=>false
noncomputable def Ng:D->Bool| .bl _=>true|_=>false
noncomputable def Nk:D->Bool| .bl _=>true| .int _=>true|_=>false
theorem Qe(K:PySem.W.Frag)(d:D):PySem.W.kitOne K (.type (tyD d)) (.type "tuple")=some (isTup d):=by cases d<;>rfl
theorem UD(K:PySem.W.Frag)(d:D):PySem.W.kitOne K (.type (tyD d)) (.type "bool")=some (Ng d):=by cases d<;>rfl
theorem O2(K:PySem.W.Frag)(d:D):PySem.W.kitOne K (.type (tyD d)) (.type "int")=some (Nk d):=by cases d<;>rfl
theorem ag{H:Hp}{p:Addr}(h:H p=none)(o:HO):aA H (upd H p o):=λb u q=>by rw[aX (aQ q h)];exact q
end L3
end
section
namespace L3
open PySem PySem.Spec PyProof.Rows L2
noncomputable def ab_(te:TE)(tl th ts:TO):TE:=λσ H Q=>te σ H λx H1=>tl σ H1 λ_ H2=>th σ H2 λ_ H3=>ts σ H3 λst H4=>∃z,x= .str z/\z.length<=sizeLine/\st≠some 0/\∀y:Str,y.length<=z.length->Q (.str y) H4
theorem part_of{u:Value}{o:Option Int}(p:IsPart u o):∃q:Option (Int×Tok),u=partValue q/\q.map (·.1)=o:=by cases p with|none=>exact⟨none,rfl,rfl⟩|int i t=>exact⟨some (i,t),rfl,rfl⟩
theorem MP{X:Cx}{e:Expr}{lo hi st:Option Expr}{p2 pos:Pos}{te:TE}{tl th ts:TO}(he:PE X e te)(hl:PO X lo tl)(hu:PO X hi th)(ht:PO X st ts)(hb:∀o i,∃ops,subscripted (.Slice lo hi st p2) false o i=operate ops (getItem o i):=by intro o i;exact⟨_,rfl⟩):PE X (.Subscript e (.Slice lo hi st p2) pos) (ab_ te tl th ts):=by
 intro pins s σ H Q I h;refine Subscript_ (bG (he pins s σ H _ I h) λv s1⟨x,H1,I1,r1,q1⟩=>?_);refine wpAny_Slice (bG (hl pins s1 σ H1 _ I1 q1) λvl s2⟨l,H2,I2,pl,q2⟩=>bG (hu pins s2 σ H2 _ I2 q2) λvu s3⟨u,H3,I3,pu,q3⟩=>bG (ht pins s3 σ H3 _ I3 q3) λvt s4⟨t,H4,I4,pt,z,e1,hz,h0,q⟩=>?_);subst e1;obtain⟨tk,rfl⟩:=r1;obtain⟨al,rfl,el⟩:=part_of pl;obtain⟨au,rfl,eu⟩:=part_of pu;obtain⟨at',rfl,et⟩:=part_of pt;have I5:Inv X pins σ H4 {s4 with heap:=s4.heap.push {cls:= .type "slice",data:= .fields #[partValue al,partValue au,partValue at']}}:=I4.kept (t':=s4.toks) λb ob q=>Heap.get?_push_of_some _ q;have hk:((at'.map (·.1)).getD 1==0)=false:=by rw[et];cases t with|none=>rfl|some i=>simpa usingλz=>h0 (by rw[z])
 show wpAny (model X.prog X.w) X.A (subscriptTail e (.Slice lo hi st p2) (.str z tk) (.ref s4.heap.objs.size)) (EP X pins σ Q) X.xe _;obtain⟨ops,hb⟩:=hb (.str z tk) (.ref s4.heap.objs.size);refine tail_any (ops:=ops) (T:="str") (typeIs_str _ _ _) PySem.F.slot_str_getitem.lookup (wpAny_getItem_str_slice (l:=al) (u:=au) (st:=at') ⟨_,Heap.get?_push_size _ rfl,rfl,rfl⟩ hk ?_) hb;have fin:∀y:Str,y.length<=z.length->∀t' k,EP X pins σ Q (.str y t') {s4 with heap:=s4.heap.push {cls:= .type "slice",data:= .fields #[partValue al,partValue au,partValue at']},toks:=k}:=λy hy t' k=>⟨.str y,H4,I5.tok k,⟨t',rfl⟩,q y hy⟩;unfold sliceMade;split;·exact fin z (Nat.le_refl _) _ _
 ·have hy:(Str.mk ((slicePicked z al au at').filterMap (z.cps[·]?)).toArray).length<=z.length:=by show(List.filterMap _ (slicePicked z al au at')).toArray.size<=z.length;rw[List.size_toArray];refine Nat.le_trans (List.length_filterMap_le _ _) ?_;exact sliceIndicesBy_le _ _ _ (by simpa using hk) z.length
  exact⟨Nat.le_trans hy hz,fin _ hy _ _⟩
end L3
end
section
namespace L3
open PySem PySem.Spec PyProof.Rows L2
noncomputable def ab8(t u:TS):TS:=λD σ H=>∃M:L2.St->Hp->Prop,t {D with nx:=M} σ H/\∀aY H',M aY H'->u D aY H'
theorem kD{X:Cx}{st:Stmt}{rest:List Stmt}{t u:TS}(h1:PS X st t)(h2:eM X rest u):eM X (st::rest) (ab8 t u):=by intro pins s σ H D I h;obtain⟨M,h,hM⟩:=h;refine wpAny_execs_cons (bG (h1 pins s σ H {D with nx:=M} I h) λf s1 q=>?_);cases f with|next=>obtain⟨aY,H',I',q⟩:=q;exact h2 pins s1 aY H' D I' (hM aY H' q)|ret v=>exact q|brk=>exact q|cont=>exact q
theorem iC{J:It}{g:TG}{tb:TS}{D:Ends}{σ:L2.St}{H:Hp}(n:Nat)(Pv:Nat->L2.St->Hp->Prop)(h0:Pv 0 σ H)(Kf:∀i σ H,i<n->Pv i σ H->J.go i H/\∀x H',J.Cf i H x H'->g x σ H' λJN H2=>tb {D with nx:=Pv (i+1),ct:=Pv (i+1),bk:=D.nx} JN H2)(hd:∀σ H,Pv n σ H->J.stop n H/\D.nx σ H):∃W:Nat->Nat->L2.St->Hp->Prop,(∃m,W 0 m σ H)/\∀i m σ H,W i m σ H->(J.stop i H/\D.nx σ H)\/(J.go i H/\∃N:L2.St->Hp->Prop,(∀aY H',N aY H'->∃m',m'<m/\W (i+1) m' aY H')/\∀x H',J.Cf i H x H'->g x σ H' λJN H2=>tb {D with nx:=N,ct:=N,bk:=D.nx} JN H2):=by
 refine⟨λi m σ H=>m=n-i/\i<=n/\Pv i σ H,⟨n,by simp,Nat.zero_le _,h0⟩,?_⟩;rintro i m σ H⟨rfl,hi,p⟩;by_cases m9:i<n;·obtain⟨g1,g2⟩:=Kf i σ H m9 p;exact .inr ⟨g1,Pv (i+1),λaY H' p'=>⟨n-(i+1),by omega,rfl,m9,p'⟩,g2⟩
 ·obtain rfl:i=n:=by omega
  exact .inl (hd σ H p)
noncomputable def cJ(p:Addr)(H H':Hp):Prop:=∀b o,b≠p->H b=some o->H' b=some o
theorem cJ.trans{p:Addr}{H H1 H2:Hp}(a:cJ p H H1)(b:cJ p H1 H2):cJ p H H2:=λc o n h=>b c o n (a c o n h)
theorem _root_.L2.aA.x{p:Addr}{H H':Hp}(a:aA H H'):cJ p H H':=λc o _ h=>a c o h
theorem cJ.upd{p:Addr}{H:Hp}(o:HO):cJ p H (upd H p o):=λb u n h=>by rw[aX n];exact h
mutual theorem Rep.gW{p:Addr}{H H':Hp}(h:cJ p H H')(hp:∀vs,H p≠some (.tup vs)):∀{d:KM.D}{v:V},Rep H d v->Rep H' d v| .ba,_,r=>r| .bl _,_,r=>r| .int _,_,r=>r| .str _,_,r=>r| .tup _,_,⟨a,vs,e,q,r⟩=>⟨a,vs,e,h _ _ (λz=>hp vs (by rw[<-z];exact q)) q,bu.gW h hp r⟩theorem bu.gW{p:Addr}{H H':Hp}(h:cJ p H H')(hp:∀vs,H p≠some (.tup vs)):∀{ds:List KM.D}{vs:List V},bu H ds vs->bu H' ds vs|[],_,r=>r|_::_,_,⟨v,r,e,q,t⟩=>⟨v,r,e,Rep.gW h hp q,bu.gW h hp t⟩end
end L3
end
section
namespace L3
open PySem PySem.Spec PyProof.Rows L2
section
variable{prog:Program}{w:World}{A:Around}{E:Value->Shared->Prop}{s:Shared}{d:Addr}{o:Obj}{es:Array DictEntry}{ep:Nat}{hsh:Int}
end
section
variable{X:Cx}{pins:List (Addr×Obj)}{σ:L2.St}{H:Hp}{s:Shared}{a:Addr}{D:List (Str×V)}{A:Around}{E:Value->Shared->Prop}
end
end L3
end
section
namespace L3
open PySem L2
section
variable{prog:Program}{w:World}{A:Around}{E:Value->Shared->Prop}{s:Shared}
theorem Vc{it t:Addr}{i:Nat}{aI:Array Value}{x:Value}{Q:Value->Shared->Prop}(gi:s.heap.IsListIter it t i)(gt:s.heap.IsList t aI)(gx:aI[i]?=some x)(hQ:∀h',h'.IsListIter it t (i+1)->Heap.SameBut it s.heap h'->Q x {s with heap:=h'}):wpAny (model prog w) A (Builtin.SmallTypes.nextOf (.ref it)) Q E s:=by obtain⟨oi,ei,ci,di⟩:=id gi;obtain⟨ot,et,_,nt,dt⟩:=gt;unfold Builtin.SmallTypes.nextOf;refine wpAny_bind (wpAny_callSpecial?_slot (name:=Str.ofString "__next__") gi.typeIs slot_listiter_next (wpAny_call_entry slot_listiter_next gi.typeIs entry_listiter_next ?_ (args_listiter_next _)));show wpAny (model prog w) _ (field (.ref it) 0>>=_) _ _ s;refine wpAny_bind (wpAny_field ei di (x:= .ref t) rfl ?_);show wpAny (model prog w) _ (if(Value.ref t==Value.none)=true then _ else _) _ _ s;rw[if_neg (show¬(Value.ref t==Value.none)=true from Bool.false_ne_true)];show wpAny (model prog w) _ (field (.ref it) 1>>=_) _ _ s;refine wpAny_bind (wpAny_field ei di (x:= .int i 0) rfl ?_);show wpAny (model prog w) _ (seqItems? (.ref t)>>=_) _ _ s;refine wpAny_bind (wpAny_seqItems et dt ?_);simp only[Int.toNat_natCast,gx];refine wpAny_bind (wpAny_setField ei di (by simp) (wpAny_pure ⟨x,rfl,wpAny_pure (hQ _ ?_ (Heap.SameBut.update ..))⟩));refine⟨_,Heap.get?_update_self _ ei (Obj.isFreed_of_fields (Obj.data_mapFields di _)),(Obj.cls_mapFields ..).trans ci,?_⟩;rw[Obj.data_mapFields di];simp[rawInt]
theorem Di{it t:Addr}{i:Nat}{aI:Array Value}{Q:Value->Shared->Prop}(hb:HB s.heap A)(na:∀a,A.handled=some (.ref a)->a≠it)(gi:s.heap.IsListIter it t i)(gt:s.heap.IsList t aI)(gx:aI[i]?=none)(hE:∀h' e,Heap.ExtBut it s.heap h'->(∃o,h'.get? e=some o/\o.cls= .type "StopIteration")->E (.ref e) {s with heap:=h'}):wpAny (model prog w) A (Builtin.SmallTypes.nextOf (.ref it)) Q E s:=by obtain⟨oi,ei,ci,di⟩:=id gi;obtain⟨ot,et,_,nt,dt⟩:=gt;unfold Builtin.SmallTypes.nextOf;refine wpAny_bind (wpAny_callSpecial?_slot (name:=Str.ofString "__next__") gi.typeIs slot_listiter_next (wpAny_call_entry slot_listiter_next gi.typeIs entry_listiter_next ?_ (args_listiter_next _)));show wpAny (model prog w) _ (field (.ref it) 0>>=_) _ _ s;refine wpAny_bind (wpAny_field ei di (x:= .ref t) rfl ?_);show wpAny (model prog w) _ (if(Value.ref t==Value.none)=true then _ else _) _ _ s;rw[if_neg (show¬(Value.ref t==Value.none)=true from Bool.false_ne_true)];show wpAny (model prog w) _ (field (.ref it) 1>>=_) _ _ s;refine wpAny_bind (wpAny_field ei di (x:= .int i 0) rfl ?_);show wpAny (model prog w) _ (seqItems? (.ref t)>>=_) _ _ s;refine wpAny_bind (wpAny_seqItems et dt ?_);simp only[Int.toNat_natCast,gx];refine wpAny_bind (wpAny_rule (wpAny_bind (wpAny_setField ei di (by simp) ?_)));exact iO (A:=A.in1) (hb.upd na) λh' e k he=>hE h' e (yh k) he
end
theorem gd{prog:Program}{w:World}{A:Around}(it t:Addr)(ne:t≠it)(na:∀a,A.handled=some (.ref a)->a≠it)(aI:Array Value):Draws prog w A it (it::t::jy A) aI.size (λi v=>aI[i]?=some v) (λi h=>h.IsListIter it t i/\h.IsList t aI/\HB h A)where
 live:=λ_ _ st=>let⟨o,ho,_⟩:=st.1;⟨o,ho⟩;frame:=λi h h' st hk=>by obtain⟨⟨o1,e1,r1⟩,⟨o2,e2,r2⟩,hb⟩:=st;exact⟨⟨o1,hk it (by simp) o1 e1,r1⟩,⟨o2,hk t (by simp) o2 e2,r2⟩,hb.frame λb hb=>hk b (by simp[hb])⟩
 item:=λi s Q E hi st hQ=>by refine Vc st.1 st.2.1 (x:=aI[i]) (by simp[hi]) λh' k1 k2=>?_;exact hQ _ h' s.toks (by simp[hi]) ⟨k1,st.2.1.extBut k2.extBut ne,st.2.2.mono λa o ea eo=>k2.extBut a o (na a ea) eo⟩ k2
 done:=λs Q E st hE=>Di st.2.2 na st.1 st.2.1 (by simp) hE
noncomputable abbrev zl1(h:Heap)(a:Addr):Heap:=h.push {cls:= .type "list_iterator",data:= .fields #[.ref a, .int 0 0]}
noncomputable abbrev zl2(h:Heap)(a b:Addr):Heap:=(zl1 h a).push {cls:= .type "list_iterator",data:= .fields #[.ref b, .int 0 0]}
noncomputable abbrev zl3(h:Heap)(a b:Addr):Heap:=(zl2 h a b).push {cls:= .type "tuple",data:= .seq #[.ref h.objs.size, .ref (zl1 h a).objs.size]}
noncomputable abbrev zl4(h:Heap)(a b:Addr):Heap:=(zl3 h a b).push {cls:= .type "tuple",data:= .seq #[.none, .none]}
noncomputable abbrev Vx(h:Heap)(a b:Addr):Heap:=(zl4 h a b).push {cls:= .type "zip",data:= .fields #[.none, .bool false, .bool false, .ref (zl2 h a b).objs.size, .ref (zl3 h a b).objs.size]}
theorem C8(a b:Addr)(xs ys:Array Value):Meets (Builtin.«zip.__new__» ⟨[.type "zip", .ref a, .ref b],[]⟩) (λ_ R s=>s.heap.IsList a xs/\s.heap.IsList b ys/\R (.ok (.ret (.ref (zl4 s.heap a b).objs.size))) {s with heap:=Vx s.heap a b}):= .of_wp λprog w A R s h=>by obtain⟨hp,g,d,tk,os⟩:=s;obtain⟨k1,k2,h⟩:=h;have acJ:=sub_zip;have t1:Heap.IsList (Shared.heap ⟨hp,g,d,tk,os⟩) a xs:=k1;have t2:Heap.IsList (Shared.heap ⟨hp.push {cls:= .type "list_iterator",data:= .fields #[.ref a, .int 0 0]},g,d,tk,os⟩) b ys:=Heap.IsList.push k2 _;wp_walk using wpAny_pyIter_list t1,wpAny_pyIter_list t2;exact⟨_,rfl,h⟩
section
variable{prog:Program}{w:World}{A:Around}{E:Value->Shared->Prop}{s:Shared}
theorem Jt{a b:Addr}{xs ys:Array Value}{Q:Value->Shared->Prop}(k1:s.heap.IsList a xs)(k2:s.heap.IsList b ys)(h:∀h',IsZip h' (s.heap.objs.size+4) (s.heap.objs.size+2) (s.heap.objs.size+3) .none->IsPair h' (s.heap.objs.size+2) (.ref s.heap.objs.size) (.ref (s.heap.objs.size+1))->IsPair h' (s.heap.objs.size+3) .none .none->h'.IsListIter s.heap.objs.size a 0->h'.IsListIter (s.heap.objs.size+1) b 0->(∀c o,s.heap.get? c=some o->h'.get? c=some o)->Q (.ref (s.heap.objs.size+4)) {s with heap:=h'}):wpAny (model prog w) A (call (.type "zip") [.ref a, .ref b]) Q E s:=by
 refine callType_new F.called_zip (by decide) (F.typeCall_zip_2 _ _) (F.newCall_zip_2 _ _) (λobj=>F.args_object_init_3 obj _ _) F.entry_zip_new (C8 a b xs ys) ⟨k1,k2,?_⟩;have e1:(zl1 s.heap a).objs.size=s.heap.objs.size+1:=Heap.size_push ..;have e2:(zl2 s.heap a b).objs.size=s.heap.objs.size+2:=by rw[Heap.size_push,e1]
 have e3:(zl3 s.heap a b).objs.size=s.heap.objs.size+3:=by rw[Heap.size_push,e2]
 have e4:(zl4 s.heap a b).objs.size=s.heap.objs.size+4:=by rw[Heap.size_push,e3]
 have p5:(Vx s.heap a b).get? (zl4 s.heap a b).objs.size=some _:=Heap.get?_push_size _ rfl;have p4:(Vx s.heap a b).get? (zl3 s.heap a b).objs.size=some _:=Heap.get?_push_of_some _ (Heap.get?_push_size _ rfl);have p3:(Vx s.heap a b).get? (zl2 s.heap a b).objs.size=some _:=Heap.get?_push_of_some _ (Heap.get?_push_of_some _ (Heap.get?_push_size _ rfl));have p2:(Vx s.heap a b).get? (zl1 s.heap a).objs.size=some _:=Heap.get?_push_of_some _ (Heap.get?_push_of_some _ (Heap.get?_push_of_some _ (Heap.get?_push_size _ rfl)));have p1:(Vx s.heap a b).get? s.heap.objs.size=some _:=Heap.get?_push_of_some _ (Heap.get?_push_of_some _ (Heap.get?_push_of_some _ (Heap.get?_push_of_some _ (Heap.get?_push_size _ rfl))));show _/\_;rw[e2,e3,e4]at p5;rw[e1,e2]at p3;rw[e3]at p4;rw[e1]at p2;rw[e4];refine⟨⟨_,p5,rfl⟩,h _ p5 p3 p4 ⟨_,p1,rfl,rfl⟩ ⟨_,p2,rfl,rfl⟩ λc o q=>?_⟩;exact Heap.get?_push_of_some _ (Heap.get?_push_of_some _ (Heap.get?_push_of_some _ (Heap.get?_push_of_some _ (Heap.get?_push_of_some _ q))))
end
end L3
end
section
namespace L3
open PySem PySem.Spec PyProof.Rows L2
theorem lQ{X:Cx}{pins:List (Addr×Obj)}{σ:L2.St}{H:Hp}{s:Shared}{a d:Addr}{xs:List V}(I:Inv X pins σ H s)(q:bQ X.K H a xs)(f:ku X pins H d):a≠d:=λz=>by
 subst z;rcases q with(q|⟨o,q⟩)|⟨o,_,_,q,_⟩;·rw[f.1]at q;cases q
 ·rw[f.1]at q;cases q
 ·have e:=I.ok.mod.ID a o q;rcases f.2.2.2.1 with z|z;·exact I.ok.xf a o e z
  ·exact absurd (Nat.lt_of_lt_of_le (Heap.lt_size e) I.ok.Cz) (Nat.not_lt.mpr z)
noncomputable def YC(K:PySem.W.Frag)(a b:Addr):It:=⟨λi H=>∃xs ys x y,bQ K H a xs/\bQ K H b ys/\xs[i]?=some x/\ys[i]?=some y,λi H v H'=>∃p x y,v= .ref p/\H p=none/\H'=upd H p (.tup [x,y])/\∀xs ys,bQ K H a xs->bQ K H b ys->xs[i]?=some x/\ys[i]?=some y,λi H=>∃xs ys,bQ K H a xs/\bQ K H b ys/\xs.length=i⟩
structure XS(a b z TI TO i1 i2:Addr)(i:Nat)(h:Heap):Prop where
 z:IsZip h z TI TO .none
 TI:IsPair h TI (.ref i1) (.ref i2)
 TO:∃u v,IsPair h TO u v
 i1:h.IsListIter i1 a i
 i2:h.IsListIter i2 b i
theorem JB{P:Program}{w:World}{K:PySem.W.Frag}{es:List Expr}{k:Nat}{pos:Pos}(a b n:Nat):Turn P w K (.Tuple es k pos) (YC K a b) [n+4,n+2,n+3,n,n+1] (n+4) (XS a b (n+4) (n+2) (n+3) n (n+1))where
 mem:=by simp
 obj:=λi h st c hc=>by
  simp only[List.mem_cons,List.not_mem_nil,or_false]at hc;obtain⟨o1,e1,_,d1⟩:=st.i1;obtain⟨o2,e2,_,d2⟩:=st.i2;obtain⟨u,v,eo⟩:=st.TO;rcases hc with rfl|rfl|rfl|rfl|rfl;·exact⟨_,st.z,λv q=>by cases q⟩
  ·exact⟨_,st.TI,λv q=>by cases q⟩
  ·exact⟨_,eo,λv q=>by cases q⟩
  ·exact⟨o1,e1,λv q=>by rw[d1]at q;cases q⟩
  ·exact⟨o2,e2,λv q=>by rw[d2]at q;cases q⟩
 keep:=λi h h' st kp=>by obtain⟨o1,e1,r1⟩:=st.i1;obtain⟨o2,e2,r2⟩:=st.i2;obtain⟨u,v,eo⟩:=st.TO;exact⟨kp _ (by simp) _ st.z,kp _ (by simp) _ st.TI,⟨u,v,kp _ (by simp) _ eo⟩,⟨o1,kp _ (by simp) _ e1,r1⟩,⟨o2,kp _ (by simp) _ e2,r2⟩⟩
 item:=by
  intro X hP hw hK hc i pins s σ H E I hf st hg;subst hP hw hK;obtain⟨xs,ys,x,y,q1,q2,hx,hy⟩:=hg;obtain⟨jw,De,p1,_⟩:=I.list q1;obtain⟨vK,rv2,p2,_⟩:=I.list q2;obtain⟨u1,Zj,R6⟩:=De.get hx;obtain⟨u2,hu2,ru2⟩:=rv2.get hy;obtain⟨u,v,eo⟩:=st.TO;have Z4:=Heap.lt_size st.z;have l1:i<jw.toArray.size:=by rw[List.size_toArray];exact(List.getElem?_eq_some_iff.mp Zj).1
  have l2:i<vK.toArray.size:=by rw[List.size_toArray];exact(List.getElem?_eq_some_iff.mp hu2).1
  have na:∀d∈[n+4,n+2,n+3,n,n+1],a≠d:=λd hd=>lQ I q1 (hf d hd);have nb:∀d∈[n+4,n+2,n+3,n,n+1],b≠d:=λd hd=>lQ I q2 (hf d hd);have ap:lD (n+4) (n+2) (n+3) n (n+1) (n::a::jy X.A.in1) ((n+1)::b::jy X.A.in1):=by have nh:∀d∈[n+4,n+2,n+3,n,n+1],d∉jy X.A.in1:=λd hd z=>I.Pj hc (hf d hd).2.2.2.1 (hf d hd).2.2.2.2.2 d (j5 z) rfl;have a1:=na (n+4) (by simp);have a2:=na (n+3) (by simp);have a3:=na (n+1) (by simp);have b1:=nb (n+4) (by simp);have b2:=nb (n+3) (by simp);have b3:=nb n (by simp);constructor<;>(try simp only[List.mem_cons,not_or])<;>first|omega|exact⟨by omega,by omega,nh _ (by simp)⟩
  have jG:∀d∈[n+4,n+2,n+3,n,n+1],∀a,X.A.in1.handled=some (.ref a)->a≠d:=λd hd=>I.Pj hc (hf d hd).2.2.2.1 (hf d hd).2.2.2.2.2;refine Jz (gd n a (na n (by simp)) (jG n (by simp)) jw.toArray) (gd (n+1) b (nb (n+1) (by simp)) (jG (n+1) (by simp)) vK.toArray) ap st.z st.TI eo ⟨st.i1,p1.isList,I.hb hc⟩ ⟨st.i2,p2.isList,I.hb hc⟩ l1 l2 λx' y' h1 tk e1 e2 z1 o1 s1 s2 pr kp=>?_;have e1:jw.toArray[i]?=some x':=e1;have e2:vK.toArray[i]?=some y':=e2;have ex:u1=x':=by rw[List.getElem?_toArray,Zj]at e1;exact Option.some.inj e1
  have ey:u2=y':=by rw[List.getElem?_toArray,hu2]at e2;exact Option.some.inj e2
  subst ex ey;refine⟨_,rfl,wpAny_letOwnedTupleGo_zip (s:={s with heap:=h1,toks:=tk}) z1 λh2 z2 sb=>?_⟩;have lt:∀d∈[n+4,n+2,n+3,n,n+1],d<s.heap.objs.size:=λd hd=>by
   have :d<=n+4:=by simp at hd;omega
   exact Nat.lt_of_le_of_lt this Z4
  have up:∀c o,c≠n+4->h1.get? c=some o->h2.get? c=some o:=λc o jg e=>(sb.2 c jg).trans e;have prT:h2.get? s.heap.objs.size=some {cls:= .type "tuple",data:= .seq #[u1,u2]}:=up _ _ (Nat.ne_of_gt Z4) pr;refine⟨.ref s.heap.objs.size,_,xq (s:=s) (h':=h2) (t':=tk) (ch:=[n+4,n+3,n,n+1]) (T:=s.heap.objs.size) (o:= .tup [x,y]) I (λc o jg e=>?_) (λd hd=>hf d (by simp only[List.mem_cons,List.not_mem_nil,or_false]at hd⊢;rcases hd with z|z|z|z<;>simp[z])) (Nat.le_refl _) ?_,rfl,⟨_,x,y,rfl,I.bJ.fresh (Nat.le_refl _),rfl,λxs' ys' a1 a2=>?_⟩,?_,λd hd=>?_⟩;·simp only[List.mem_cons,List.not_mem_nil,or_false,not_or]at jg;exact up c o jg.1 (kp c o jg.1 jg.2.1 jg.2.2.1 jg.2.2.2 e)
  ·exact⟨(by show 2<=sizeLine;decide),[u1,u2], .cons R6 (.cons ru2 .nil),⟨_,prT,rfl,_,rfl⟩⟩
  ·rw[I.jR a1 q1,I.jR a2 q2];exact⟨hx,hy⟩
  ·obtain⟨⟨oa,ea,ra⟩,_⟩:=s1;obtain⟨⟨ob,eb,rb⟩,_⟩:=s2;refine⟨z2,up _ _ ap.TIz (kp _ _ ap.TIz ap.TITO ap.TI1 ap.TI2 st.TI),⟨_,_,up _ _ (by omega) o1⟩,⟨oa,up _ _ (by omega) ea,ra⟩,⟨ob,up _ _ (by omega) eb,rb⟩⟩
  ·rw[aX (Nat.ne_of_lt (lt d hd))];exact(hf d hd).1
 done:=by
  intro X hP hw hK hc i pins s σ H E I hf st hg;subst hP hw hK;obtain⟨xs,ys,q1,q2,hl⟩:=hg;obtain⟨jw,De,p1,_⟩:=I.list q1;obtain⟨u,v,eo⟩:=st.TO;have na:∀d∈[n+4,n+2,n+3,n,n+1],a≠d:=λd hd=>lQ I q1 (hf d hd);have nb:∀d∈[n+4,n+2,n+3,n,n+1],b≠d:=λd hd=>lQ I q2 (hf d hd);have ap:lD (n+4) (n+2) (n+3) n (n+1) (n::a::jy X.A.in1) ((n+1)::b::jy X.A.in1):=by have nh:∀d∈[n+4,n+2,n+3,n,n+1],d∉jy X.A.in1:=λd hd z=>I.Pj hc (hf d hd).2.2.2.1 (hf d hd).2.2.2.2.2 d (j5 z) rfl;have a1:=na (n+4) (by simp);have a2:=na (n+3) (by simp);have a3:=na (n+1) (by simp);have b1:=nb (n+4) (by simp);have b2:=nb (n+3) (by simp);have b3:=nb n (by simp);constructor<;>(try simp only[List.mem_cons,not_or])<;>first|omega|exact⟨by omega,by omega,nh _ (by simp)⟩
  have hi:jw.toArray.size=i:=by rw[List.size_toArray,<-De.length];exact hl
  subst hi;have jG:∀d∈[n+4,n+2,n+3,n,n+1],∀a,X.A.in1.handled=some (.ref a)->a≠d:=λd hd=>I.Pj hc (hf d hd).2.2.2.1 (hf d hd).2.2.2.2.2;refine JM (gd n a (na n (by simp)) (jG n (by simp)) jw.toArray) ap st.z st.TI eo ⟨st.i1,p1.isList,I.hb hc⟩ λh1 kp=>⟨rfl,?_⟩;refine Gf (t':=s.toks) (ch:=[n+4,n+3,n,n+1]) I (λc o jg e=>?_) λd hd=>hf d (by simp only[List.mem_cons,List.not_mem_nil,or_false]at hd⊢;rcases hd with z|z|z|z<;>simp[z]);simp only[List.mem_cons,List.not_mem_nil,or_false,not_or]at jg;exact kp c o jg.1 jg.2.1 jg.2.2.1 jg.2.2.2 e
 self:=λA i s Q E st h=>wpAny_pyIter_zip st.z h
noncomputable def Wu(K:PySem.W.Frag)(ta:TA):TI:=λσ H R=>ta σ H λvs H1=>∃a b xs ys,vs=[.ref a, .ref b]/\bQ K H1 a xs/\bQ K H1 b ys/\R (YC K a b) H1
theorem O3{X:Cx}{es:List Expr}{k:Nat}{Lq:Pos}{a b:Expr}{ta:TA}{p pos:Pos}(hg:Gl X "zip")(hm:X.mg "zip"=none)(ha:PA X [a,b] ta)(hs:starEach [a,b] X.env=[(false,eval a X.env),(false,eval b X.env)]:=by rfl)(hs2:starEach [b] X.env=[(false,eval b X.env)]:=by rfl):PI X (.Tuple es k Lq) (.Call (.Name "zip" p) [a,b] [] pos) (Wu X.K ta):=by
 intro pins s σ H R I h;refine Call_ (jr I hg hm boot_zip (PyProof.Rows.callWith_type1 (bG (ha pos pins s σ H _ I h) λus s1⟨vs,H1,I1,r1,q1⟩=>?_) (by rw[hs,hs2]) (by rw[hs2];rfl)));obtain⟨a1,b1,xs,ys,e,k1,k2,q⟩:=q1;subst e;obtain⟨u1,u2,rfl,R6,ru2⟩:=Vals.two r1;cases R6;cases ru2;obtain⟨jw,De,p1,_⟩:=I1.list k1;obtain⟨vK,rv2,p2,_⟩:=I1.list k2;refine Jt p1.isList p2.isList λh1 z1 t1 o1 s1' s2' kp=>?_;refine wpAny_pyIter_zip (s:={s1 with heap:=h1}) z1 ?_;have I2:Inv X pins σ H1 {s1 with heap:=h1}:=I1.kept (t':=s1.toks) kp;refine⟨_,_,_,_,H1,rfl,I2,JB a1 b1 s1.heap.objs.size,⟨z1,t1,⟨_,_,o1⟩,s1',s2'⟩,λd hd=>?_,q⟩;have :s1.heap.objs.size<=d:=by simp only[List.mem_cons,List.not_mem_nil,or_false]at hd;rcases hd with z|z|z|z|z<;>rw[z]<;>first|exact Nat.le_add_right _ _|exact Nat.le_refl _
 exact I1.NB this (I1.bJ.fresh this)
end L3
end
section
namespace L3
open PySem PySem.Spec PyProof.Rows L2
theorem AH:bootBuiltins "tuple"=some (.type "tuple"):=by decide+kernel
theorem Sh:bootBuiltins "int"=some (.type "int"):=by decide+kernel
theorem Ol:bootBuiltins "bool"=some (.type "bool"):=by decide+kernel
theorem Hv:bootBuiltins "list"=some (.type "list"):=by decide+kernel
theorem eA:bootBuiltins "len"=some (.builtin "len"):=by decide+kernel
theorem bH:bootBuiltins "isinstance"=some (.builtin "isinstance"):=by decide+kernel
theorem DK:bootBuiltins "max"=some (.builtin "max"):=by decide+kernel
noncomputable def Df(K:PySem.W.Frag)(mg:Str->Option Value)(x:Str)(st:Stmt)(ps:List Str):Prop:=∃f fd,Qn K x x st f fd/\mg x=some (.ref f)/\Binds K fd ps []
noncomputable def bI(P:Program)(w:World)(K:PySem.W.Frag)(mg:Str->Option Value)(CX:nH)(x:Str)(k:Nat)(ps:List Str)(sp:Sp):Prop:=∃f fd,(∀base,wZ P w K mg base CX k f fd ps sp)/\mg x=some (.ref f)/\PySem.W.keepIn K (.ref f)=true/\Binds K fd ps []
section
variable{P:Program}{w:World}{K:PySem.W.Frag}{mg:Str->Option Value}
theorem Df.ok{x:Str}{st:Stmt}{N ps:List Str}{k:Nat}{sp:Sp}(D:Df K mg x st ps)(S:aK N ps (ae st))(len:∀vs H Q E,sp vs H Q E->vs.length=ps.length)(eE:∀(base:Heap)(f:Addr)(cM:Value)(A:Around)(outer:List Env)(s:Shared)(H:Hp)(vs:List V)(Q:VK)(E:XK),cI k (A.deeper (envOfC x (ae st) s.heap.objs.size f cM))->sp vs H Q E->∃t,eM (dZ b_ P w K mg base N x (ae st) f cM A outer s H E).Ka (ai st) t/\t {nx:=λ_ H'=>Q .ba H',rt:=Q} (start N vs) H):bI P w K mg b_ x (k+1) ps sp:=by obtain⟨f,fd,F,m,b⟩:=D;exact⟨f,fd,λbase=>F.ok S len (eE base f),m,F.kp,b⟩
theorem bI.never{x:Str}{st:Stmt}{ps:List Str}{sp:Sp}{k:Nat}{CX:nH}(D:Df K mg x st ps)(no:∀vs H Q E,¬sp vs H Q E):bI P w K mg CX x k ps sp:=by obtain⟨f,fd,F,m,b⟩:=D;exact⟨f,fd,λbase=>⟨λvs H Q E h=>absurd h (no vs H Q E),λA outer s H args us vs Q E _ _ _ _ h=>absurd h (no vs H Q E)⟩,m,F.kp,b⟩
end
noncomputable def xa(h:Heap)(H:Hp)(fs:List Addr):Heap:=PySem.W.hideAll (Ar h H) fs
theorem iL{h:Heap}{H:Hp}{fs:List Addr}{b:Addr}{o:Obj}(e:h.get? b=some o)(n:H b=none)(hf:b∉fs):(xa h H fs).get? b=some o:=PySem.W.hideAll_get _ (kE e n) hf
theorem OU{h:Heap}{H:Hp}{fs:List Addr}{b:Addr}{o:Obj}(e:(xa h H fs).get? b=some o):h.get? b=some o/\H b=none:=Em (PySem.W.of_hideAll fs e)
theorem JO(h:Heap)(H:Hp)(fs:List Addr):(xa h H fs).objs.size=h.objs.size:=(PySem.W.hideAll_size _ _).trans (xV h H)
theorem ko{h B B':Heap}:∀{l:List Env},h.FunFrames B l->(∀L∈hI l,B'.get? L=none)->h.FunFrames B' l|[],_,_=>trivial|env::l,⟨hk,⟨L,o,hf,_,ho,hd⟩,hr⟩,hn=>⟨hk,⟨L,o,hf,hn L (by unfold hI;rw[List.filterMap_cons,hf];exact List.mem_cons_self),ho,hd⟩,ko hr λb hb=>hn b (by unfold hI at hb⊢;rw[List.filterMap_cons,hf];exact List.mem_cons_of_mem _ hb)⟩
theorem K_{X:Cx}{pins:List (Addr×Obj)}{σ:L2.St}{H:Hp}{s:Shared}(I:Inv X pins σ H s)(hc:X.calm=true):Bh X.prog X.w X.K X.mg (xa s.heap H (hI X.stack)) X.A X.stack s H:=by
 have nf:∀b o,X.base.get? b=some o->b∉hI X.stack:=λb o e z=>by
  rcases List.mem_cons.mp (I.fi b z)with z|z;·have :=Heap.lt_size e;rw[z]at this;exact absurd this (Nat.not_lt.mpr (Nat.le_trans I.ok.Cz I.ok.above))
  ·exact I.ok.Uk e z
 have up:∀b o,X.base.get? b=some o->(xa s.heap H (hI X.stack)).get? b=some o:=λb o e=>iL (I.bs b o e).1 (I.bs b o e).2 (nf b o e);obtain⟨mb,b1,b2⟩:=I.ok.mod.blt;refine⟨I.ok.frames,⟨I.ok.mod.ID.keeps up,I.ok.mod.glob.keeps up,⟨mb,b1.keeps up,b2⟩,I.ok.mod.nolimit.keeps up,I.ok.mod.bm.keeps up⟩,λb o e=>OU e,Nat.le_of_eq (JO _ _ _),ko I.stack λL hL=>PySem.W.hideAll_none _ hL,I.Aj,I.bJ,I.bare,?_⟩;rcases I.ok.hd hc with h|⟨a,oe,vs,e1,e2,e3⟩;·exact .inl h
 ·refine .inr ⟨a,oe,vs,e1,?_,e3⟩;rcases e2 with e2|e2;·exact up a oe e2
  ·obtain⟨q1,q2,q3,q4,_⟩:=I.pin (a,oe) (List.mem_append_left _ e2);refine iL q1 q2 λz=>?_;rcases List.mem_cons.mp (I.fi a z)with z|z;·exact q3 z
   ·exact q4 z
theorem Gb{X:Cx}{CX:nH}{k:Nat}{f:Addr}{fd:FuncData}{ps:List Str}{sp:Sp}{E:XK}{pins:List (Addr×Obj)}{σ:L2.St}{H:Hp}{s:Shared}{Q:VK}{us:List Value}{vs:List V}{XE:Value->Shared->Prop}(F:∀base,wZ X.prog X.w X.K X.mg base CX k f fd ps sp)(hr:cI k X.A)(hb:Binds X.K fd ps [])(I:Inv X pins σ H s)(hc:X.calm=true)(hx:∀e s',CX X.A.handled X.stack H s E e s'->XE e s')(r:Vals vs us)(h:sp vs H Q E):wpAny (model X.prog X.w) X.A (call (.ref f) us) (EP X pins σ Q) XE s:=by
 have hl:us.length=ps.length:=by rw[<-r.length];exact(F (xa s.heap H (hI X.stack))).len _ _ _ _ h
 have bt:=hb s us I.iY (by rw[List.append_nil];exact hl);rw[List.append_nil]at bt;refine wpAny_call (codeAny_mono ((F _).run X.A X.stack s H ⟨us,[]⟩ us vs Q E hr (K_ I hc) bt r h) λr s' hq=>?_);cases r with|error e=>exact hx e s' hq|ok fl=>cases fl with|ret u=>exact I.after hq|next=>exact False.elim hq|brk=>exact False.elim hq|cont=>exact False.elim hq
theorem aO{X:Cx}{CX:nH}{x:Str}{k:Nat}{ps:List Str}{sp:Sp}{E:XK}{e:Expr}{es:List Expr}{t:TA}{p pos:Pos}(F:bI X.prog X.w X.K X.mg CX x k ps sp)(hr:cI k X.A)(hg:Gl X x)(hx:Passes CX X E)(ha:PA X (e::es) t)(vY:(x==("__debug__":Str))=false:=by decide)(he:starEach (e::es) X.env=(false,eval e X.env)::starEach es X.env:=by rfl)(wy:(backTo pos (starEach es X.env)).any (·.1)=false:=by rfl)(hc:X.calm=true:=by rfl):PE X (.Call (.Name x p) (e::es) [] pos) (Xo sp [] E t):=by obtain⟨f,fd,F,m,kp,b⟩:=F;intro pins s σ H Q I h;refine wpAny_Call_Name_kw (gK I hg m ?_ vY);refine PySem.W.callWith_K (h₀:=X.base) I.ok.mod.ID kp (bG (ha pos pins s σ H _ I h) λus s1⟨vs,H1,I1,r,q⟩=>⟨I1.iY,?_⟩) he wy;have q:sp (vs++[]) H1 Q E:=q;rw[List.append_nil]at q;exact Gb F hr b I1 hc (λe s' hc=>hx pins σ H1 s1 e s' I1 hc) r q
theorem zZ{X:Cx}{x:Str}{i:Int}{pos:Pos}(hm:∃t,X.mg x=some (.int i t))(hg:Gl X x)(hd:(x==("__debug__":Str))=false:=by decide):PE X (.Name x pos) (tC (.int i)):=by obtain⟨t,hm⟩:=hm;exact F8 hg hm ⟨t,rfl⟩ hd
theorem bW{X:Cx}{x:Str}{a:Addr}{pos:Pos}(hm:X.mg x=some (.ref a))(hg:Gl X x)(hd:(x==("__debug__":Str))=false:=by decide):PE X (.Name x pos) (tC (.ref a)):=F8 hg hm rfl hd
theorem Fy{X:Cx}{x:Str}{n:String}{pos:Pos}(hm:X.mg x=none)(hv:bootBuiltins x=some (.type n))(hg:Gl X x)(hn:x≠"__name__":=by decide)(hd:(x==("__debug__":Str))=false:=by decide):PE X (.Name x pos) (tC (.ty n)):=OR hg hm hv rfl hn hd
noncomputable def Nl(outer:List (Str×NameKind))(N N':List Str)(own:Nat)(fr:List Nat)(scope:Scope):Bool:=scope.names.all (λy=>y.2 != .cell&&(y.2 != .local||scope.names.lookup y.1==some .local)&&(y.2 != .free||outer.lookup y.1==some .cell||outer.lookup y.1==some .free))&&decide (N'.length=own+fr.length)&&(List.range fr.length).all (λj=>match fr[j]? with
 |some i=>match N'[own+j]? with|some x=>N[i]?==some x&&scope.names.lookup x==some .free|none=>false
 |none=>true)
theorem vc{X:Cx}{N N':List Str}{own:Nat}{fr:List Nat}{sc scope:Scope}(hs:X.env.scope=sc)(hN:X.N=N)(hk:scope.kind= .function)(h:Nl sc.names N N' own fr scope=true):kM X N' own fr scope:=by
 unfold Nl at h;simp only[Bool.and_eq_true,List.all_eq_true,decide_eq_true_eq]at h;obtain⟨⟨h1,h2⟩,h3⟩:=h;subst hN;refine⟨hk,λy hy=>?_,λy hy e=>?_,λy hy e=>?_,h2,λj i e=>?_⟩;·simpa using(h1 y hy).1.1
 ·have :=(h1 y hy).1.2;simpa[e]using this
 ·have :=(h1 y hy).2;unfold Env.kindOf;rw[hs];simpa[e]using this
 ·have hj:j<fr.length:=(List.getElem?_eq_some_iff.mp e).1;have :=h3 j (by simpa using hj);rw[e]at this;cases hx:N'[own+j]? with|none=>simp[hx]at this|some x=>simp only[hx,Bool.and_eq_true,beq_iff_eq]at this;exact⟨x,rfl,this.1,this.2⟩
end L3
end
section
namespace L3
open PySem PySem.Spec PyProof.Rows L2
theorem IM(a v:Value):argsOk "max" ⟨[a],[(Str.ofString "default",v)]⟩:=by unfold argsOk;kernel_rfl
section
variable{prog:Program}{w:World}{A:Around}{E:Value->Shared->Prop}{s:Shared}
theorem Bg{id:String}{b:Builtin}{args:List Value}{kw:List (Str×Value)}{Q:Value->Shared->Prop}(hk:builtinKind id=none)(hp:plainId id=true)(hb:entryFor table id=some b)(ha:argsOk id ⟨args,kw⟩)(hc:wpAny (model prog w) A.in1 (b ⟨args,kw⟩) (λfin s'=>match fin with| .done f=>(match(Except.ok f:Result)with| .ok (.ret v)=>Q v s'| .ok _=>False| .error e=>E e s')| .again c'=>c'.quiet=true/\codeAny (model prog w) A c' (λr s'=>match r with| .ok (.ret v)=>Q v s'| .ok _=>False| .error e=>E e s') s') E s):wpAny (model prog w) A (call (.builtin id) args kw) Q E s:=by refine wpAny_call (codeAny_call_builtin hp hb ?_);simp only[checkBuiltinCall,hk];cases ab9:Manifest.signature? id with|none=>exact wpAny_pure hc|some sig=>simp only[argsOk,ab9]at ha;have h2:Bind.checkArgs id sig ⟨args,kw⟩=pure ():=ha;show wpAny _ A.in1 (Bind.checkArgs id sig ⟨args,kw⟩) _ _ s;rw[h2];exact wpAny_pure hc
theorem Pd{i j:Int}{t u:Tok}{Q:Value->Shared->Prop}(h:Q (.bool (decide (i>j))) s):wpAny (model prog w) A (richCompare .Gt (.int i t) (.int j u)) Q E s:=richCompare_gives (op:= .Gt) (typeIs_int s _ t) (typeIs_int s _ u) F.slot_int_gt F.entry_int_gt (F.args_int_gt_2 _ _) (gives_int_gt _ _ t u) (λx=>nomatch x) h
end
noncomputable def Us(m x:Int):Int:=if x>m then x else m
noncomputable def maxD(ns:List Int)(d:Int):Int:=match ns with|[]=>d|a::r=>r.foldl Us a
noncomputable def Sq(ns:List Int)(j:Nat)(l:Array Value):Prop:=(j=0/\l=#[])\/(0<j/\∃t,l=#[.int (maxD (ns.take j) 0) t, .int (maxD (ns.take j) 0) t])
theorem Js{l:List Int}(x d:Int)(h:l≠[]):maxD (l++[x]) d=Us (maxD l d) x:=by cases l with|nil=>exact absurd rfl h|cons a r=>simp[maxD,List.foldl_append]
section
variable{prog:Program}{w:World}{A:Around}{R:Result->Shared->Prop}{I:Addr}{fp wr:List Addr}{P:Nat->Value->Prop}{St:Nat->Heap->Prop}
theorem JQ{ns:List Int}{d:Value}(W:Walks prog w A.in1 I fp wr ns.length P St)(hP:∀(i:Nat)v,P i v->∃x t,ns[i]?=some x/\v= .int x t)(S:Addr)(hSf:S∉fp):∀(k j:Nat)(s:Shared)(l:Array Value)(c:Nat),ns.length-j=k->j<=ns.length->St j s.heap->Sq ns j l->s.heap.get? S=some {cls:= .type "list",dict:=none,data:= .seq l c,slots:=#[]}->(∀v h' tk,(ns=[]/\v=d\/ns≠[]/\∃t,v= .int (maxD ns 0) t)->(∀b o,b∉wr->b≠S->s.heap.get? b=some o->h'.get? b=some o)->R (.ok (.ret v)) {s with heap:=h',toks:=tk})->codeAny (model prog w) A (.builtin "max.loop" ⟨[.ref I, .none, .ref S],[(Str.ofString "default",d)]⟩) R s:=by
 have hSw:S∉wr:=λh=>hSf (W.sub _ h);have BV:(toString "max"++toString ".loop":String)="max.loop":=by decide
 intro k;induction k with
  |zero=>
   intro j s l c hk hj Mw hb hS hR;have Nh:j=ns.length:=by omega
   refine codeAny_builtin F.entry_max_loop ?_;rw[Around.under_plainId F.plain_max_loop _];show wpAny _ A.in1 (seqItems? (.ref S)>>=_) _ _ s;refine wpAny_bind (wpAny_seqItems hS rfl ?_);rcases hb with⟨h0,rfl⟩|⟨h0,t,rfl⟩;·show wpAny _ A.in1 (tryCatch (pyNext (.ref I)) _>>=_) _ _ s;refine wpAny_bind (wpAny_tryCatch (W.done s _ _ (Nh▸Mw) λh' tk IQ=>?_));show wpAny _ A.in1 (rule _>>=_) _ _ _;refine wpAny_bind (wpAny_rule (wpAny_pure ?_));have e:ns=[]:=List.eq_nil_of_length_eq_zero (by omega);exact hR d _ tk (.inl ⟨e,rfl⟩) λb o JZ Oi q=>IQ b o JZ q
   ·show wpAny _ A.in1 (tryCatch (pyNext (.ref I)) _>>=_) _ _ s;refine wpAny_bind (wpAny_tryCatch (W.done s _ _ (Nh▸Mw) λh' tk IQ=>?_));have Q_:=IQ S _ hSw hS;show wpAny _ A.in1 (updateSeq S (λ_=>#[])>>=_) _ _ _;refine wpAny_bind ?_;refine wpAny_updateSeq Q_ rfl (wpAny_bind (wpAny_letGo (wpAny_pure ?_)));have e:ns≠[]:=λz=>by rw[z]at Nh;simp at Nh;omega
    refine hR _ _ tk (.inr ⟨e,t,by rw[Nh,List.take_length]⟩) λb o JZ Oi q=>(Heap.get?_update_other _ _ (Ne.symm Oi)).trans (IQ b o JZ q)
  |succ k ih=>
   intro j s l c hk hj Mw hb hS hR;have m9:j<ns.length:=by omega
   refine codeAny_builtin F.entry_max_loop ?_;rw[Around.under_plainId F.plain_max_loop _];show wpAny _ A.in1 (seqItems? (.ref S)>>=_) _ _ s;refine wpAny_bind (wpAny_seqItems hS rfl ?_);have tk1:∀x,ns[j]?=some x->ns.take (j+1)=ns.take j++[x]:=λx hx=>by rw[List.take_add_one,hx];rfl
   rcases hb with⟨h0,rfl⟩|⟨h0,t,rfl⟩
   ·show wpAny _ A.in1 (tryCatch (pyNext (.ref I)) _>>=_) _ _ s;refine wpAny_bind (wpAny_tryCatch (W.item j s _ _ m9 Mw λv h' tk hPv Pz IQ=>?_));obtain⟨x,u,hx,rfl⟩:=hP j v hPv;have Q_:=IQ S _ hSw hS;show wpAny _ A.in1 (updateSeq S (λ_=>#[.int x u, .int x u])>>=_) _ _ _;refine wpAny_bind ?_;refine wpAny_updateSeq Q_ rfl ?_;rw[BV];refine wpAny_pure ⟨plainId_quiet F.plain_max_loop _,ih (j+1) _ _ _ (by omega) m9 (W.frame _ _ _ Pz λb hbf o e=>?_) (.inr ⟨by omega,u,?_⟩) (Heap.get?_update_self _ Q_ rfl) λv' Qw M7 Pm LP=>?_⟩;·exact(Heap.get?_update_other _ _ (λh:S=b=>hSf (by rw[h];exact hbf))).trans e
    ·rw[tk1 x hx,h0];rfl
    ·exact hR v' Qw M7 Pm λb o JZ Oi e=>LP b o JZ Oi ((Heap.get?_update_other _ _ (Ne.symm Oi)).trans (IQ b o JZ e))
   ·show wpAny _ A.in1 (tryCatch (pyNext (.ref I)) _>>=_) _ _ s;refine wpAny_bind (wpAny_tryCatch (W.item j s _ _ m9 Mw λv h' tk hPv Pz IQ=>?_));obtain⟨x,u,hx,rfl⟩:=hP j v hPv;have Q_:=IQ S _ hSw hS;have ne:ns.take j≠[]:=λz=>by
     have :(ns.take j).length=0:=by rw[z];rfl
     rw[List.length_take]at this;omega
    have em:maxD (ns.take (j+1)) 0=Us (maxD (ns.take j) 0) x:=by rw[tk1 x hx,Js x 0 ne]
    show wpAny _ A.in1 (tryCatch (holding [.int x u, .int x u] (richCompare .Gt (.int x u) (.int (maxD (ns.take j) 0) t)>>=_)) _>>=_) _ _ _;refine wpAny_bind (wpAny_tryCatch (wpAny_holding (wpAny_bind (Pd ?_))));refine wpAny_bind (wpAny_holding (wpAny_truthy_bool ?_));refine wpAny_bind (wpAny_letGo (wpAny_pure ?_));by_cases hb:x>maxD (ns.take j) 0
    ·rw[decide_eq_true hb];simp only[if_true];refine wpAny_bind ?_;refine wpAny_updateSeq Q_ rfl (wpAny_bind (wpAny_letGo ?_));rw[BV];refine wpAny_pure ⟨plainId_quiet F.plain_max_loop _,ih (j+1) _ _ _ (by omega) m9 (W.frame _ _ _ Pz λb hbf o e=>?_) (.inr ⟨by omega,u,?_⟩) (Heap.get?_update_self _ Q_ rfl) λv' Qw M7 Pm LP=>?_⟩;·exact(Heap.get?_update_other _ _ (λh:S=b=>hSf (by rw[h];exact hbf))).trans e
     ·rw[em,Us,if_pos hb]
     ·exact hR v' Qw M7 Pm λb o JZ Oi e=>LP b o JZ Oi ((Heap.get?_update_other _ _ (Ne.symm Oi)).trans (IQ b o JZ e))
    ·rw[decide_eq_false hb];simp only[Bool.false_eq_true,if_false];refine wpAny_bind (wpAny_letGo ?_);rw[BV];refine wpAny_pure ⟨plainId_quiet F.plain_max_loop _,ih (j+1) _ _ c (by omega) m9 Pz (.inr ⟨by omega,t,?_⟩) Q_ λv' Qw M7 Pm LP=>?_⟩;·rw[em,Us,if_neg hb]
     ·exact hR v' Qw M7 Pm λb o JZ Oi e=>LP b o JZ Oi (IQ b o JZ e)
end
theorem ints_get:∀{ns:List Int}{us:List Value},Vals (ns.map V.int) us->∀(i:Nat)(u:Value),us[i]?=some u->∃x t,ns[i]?=some x/\u= .int x t|[],_, .nil,i,u,e=>by simp at e|n::ns,_, .cons r t,0,u,e=>by obtain⟨tk,r⟩:=r;simp at e;exact⟨n,tk,rfl,by rw[<-e,r]⟩|n::ns,_, .cons r t,i+1,u,e=>by simpa using ints_get t i u (by simpa using e)
section
variable{X:Cx}{pins:List (Addr×Obj)}{σ:L2.St}{H:Hp}{s:Shared}
theorem Le{p:Addr}{ns:List Int}{i:Int}{v:Value}{Q:VK}(hc:X.calm=true)(I:Inv X pins σ H s)(hq:bQ X.K H p (ns.map V.int))(rv:RelV (.int i) v)(q:Q (.int (maxD ns i)) H):wpAny (model X.prog X.w) X.A (call (.builtin "max") [.ref p] [(Str.ofString "default",v)]) (EP X pins σ Q) X.xe s:=by
 obtain⟨aI,r,pl,hz⟩:=I.list hq;have hl:=pl.isList;have lt:p<s.heap.objs.size:=by obtain⟨o,e,_⟩:=hl;exact Heap.lt_size e
 have na:∀a,X.A.in1.handled=some (.ref a)->a≠s.heap.objs.size:=λa ea=>by
  rcases I.hb hc with z|⟨b,oe,vs,e1,e2,_⟩;·rw[show X.A.in1.handled=X.A.handled from rfl,z]at ea;cases ea
  ·rw[show X.A.in1.handled=X.A.handled from rfl,e1]at ea;cases ea;exact Nat.ne_of_lt (Heap.lt_size e2)
 have BV:(toString "max"++toString ".loop":String)="max.loop":=by decide
 refine Bg F.kind_max F.plain_max F.entry_max (IM _ _) ?_;show wpAny _ X.A.in1 (Builtin.Builtins.bindParams "max" ["key","default"] 0 ⟨[],[(Str.ofString "default",v)]⟩>>=_) _ _ s;refine wpAny_bind (wpAny_of_eq (show Builtin.Builtins.bindParams "max" ["key","default"] 0 ⟨[],[(Str.ofString "default",v)]⟩=pure [none,some v]from rfl) ?_);refine wpAny_bind (wpAny_pure ?_);refine wpAny_bind (wpAny_pyIter_list hl ?_);refine wpAny_bind (wpAny_newObj_type ?_);have len:aI.toArray.size=ns.length:=by rw[List.size_toArray,<-r.length,List.length_map]
 have WL:=DE (prog:=X.prog) (w:=X.w) (A:=X.A.in1) s.heap.objs.size p (Nat.ne_of_lt lt) aI.toArray na;rw[len]at WL;rw[BV];have hS0:((s.heap.push {cls:= .type "list_iterator",data:= .fields #[.ref p, .int 0 0]}).objs.size)∉s.heap.objs.size::p::jy X.A.in1:=by
  rw[Heap.size_push];intro z;rcases List.mem_cons.mp z with z|z;·exact Nat.succ_ne_self _ z
  ·rcases List.mem_cons.mp z with z|z;·rw[<-z]at lt;exact Nat.not_succ_lt_self lt
   ·have ez:=j5 z;rcases I.hb hc with q|⟨b,oe,vs,e1,e2,_⟩;·rw[show X.A.in1.handled=X.A.handled from rfl,q]at ez;cases ez
    ·rw[show X.A.in1.handled=X.A.handled from rfl,e1]at ez;cases ez;exact Nat.not_succ_lt_self (Heap.lt_size e2)
 refine wpAny_pure ⟨plainId_quiet F.plain_max_loop _,JQ (d:=v) WL (λj u e=>ints_get r j u (by simpa using e)) _ hS0 _ 0 _ #[] _ rfl (Nat.zero_le _) ?_ (.inl ⟨rfl,rfl⟩) (Heap.get?_push_size _ rfl) λu h' tk hv hk=>?_⟩;·exact⟨⟨_,Heap.get?_push_of_some _ (Heap.get?_push_size _ rfl),rfl,rfl⟩,(hl.push _).push _,(I.hb hc).mono λa o _ eo=>Heap.get?_push_of_some _ (Heap.get?_push_of_some _ eo)⟩
 ·refine⟨.int (maxD ns i),H,I.kept (h':=h') (t':=tk) λb o eb=>hk b o (λhm=>?_) (λhm=>?_) (Heap.get?_push_of_some _ (Heap.get?_push_of_some _ eb)),?_,q⟩;·rw[List.mem_singleton.mp hm]at eb;exact Nat.lt_irrefl _ (Heap.lt_size eb)
  ·have :=Heap.lt_size eb;rw[hm,Heap.size_push]at this;exact Nat.not_succ_lt_self this
  ·rcases hv with⟨rfl,rfl⟩|⟨yQ,t,rfl⟩;·exact rv
   ·refine⟨t,?_⟩;cases ns with|nil=>exact absurd rfl yQ|cons a r=>rfl
end
noncomputable def WM(K:PySem.W.Frag)(t tk:TA):TE:=λσ H Q=>t σ H λvs H1=>tk σ H1 λzs H2=>∃p ns i,vs=[.ref p]/\zs=[.int i]/\bQ K H2 p (ns.map V.int)/\Q (.int (maxD ns i)) H2
theorem Ph{X:Cx}{e d:Expr}{t tk:TA}{p kp pos:Pos}(hm:X.mg "max"=none)(ha:PA X [e] t)(hk:PK X [⟨some (Str.ofString "default"),d,kp⟩] tk)(hc:X.calm=true:=by rfl)(hg:Gl X "max":=by rfl)(he:starEach [e] X.env=[(false,eval e X.env)]:=by rfl):PE X (.Call (.Name "max" p) [e] [⟨some (Str.ofString "default"),d,kp⟩] pos) (WM X.K t tk):=by intro pins s σ H Q I h;refine wpAny_Call_Name_kw (jr I hg hm DK ?_);refine callWith_kw (bG (ha pos pins s σ H _ I h) λus s1⟨vs,H1,I1,r1,q1⟩=>bG (hk pos pins s1 σ H1 _ I1 q1) λws s2⟨zs,H2,I2,r2,q2⟩=>?_) (by rw[he];rfl) (by rw[he];rfl);obtain⟨p,ns,i,rfl,rfl,hq,q⟩:=q2;obtain⟨u,rfl,ru⟩:=r1.one;cases ru;obtain⟨v,rfl,rv⟩:=r2.one;exact Le hc I2 hq rv q
end L3
end
section
namespace L3
open PySem PySem.Spec PyProof.Rows L2
theorem iy{H H2:Hp}{p:Addr}{o:HO}(h:aA H H2)(hp:H p=none):aA H (upd H2 p o):=λb u q=>by rw[aX (aQ q hp)];exact h b u q
theorem Nd{J:It}{p:Addr}{H1:Hp}{g:TG}{tt:TT}{te:TE}{b:L2.St}{C:Hp->Prop}(n:Nat)(f:Nat->Option V)(hp:H1 p=none)(hn:n<=sizeLine)(Kf:∀i H2,i<n->aA H1 H2->J.go i H2/\∀x H3,J.Cf i H2 x H3->∀(R:V->Hp->Prop)(R0:Hp->Prop),(∀v H6,f i=some v->aA H2 H6->R v H6)->(∀H5,f i=none->aA H2 H5->R0 H5)->g x b H3 λje H4=>tt je H4 λok H5=>if ok=true then te je H5 R else R0 H5)(hd:∀H2,aA H1 H2->H2 p=some (.lst ((List.range n).filterMap f))->J.stop n H2/\C H2):∃W:Nat->Nat->List V->Hp->Prop,(∃m,W 0 m [] (upd H1 p (.lst [])))/\∀i m acc H2,W i m acc H2->(J.stop i H2/\C H2)\/(J.go i H2/\∀x H3,J.Cf i H2 x H3->g x b H3 λje H4=>tt je H4 λok H5=>if ok=true then te je H5 λv H6=>H6 p=some (.lst acc)/\acc.length<sizeLine/\∃m',m'<m/\W (i+1) m' (acc++[v]) (upd H6 p (.lst (acc++[v])))else∃m',m'<m/\W (i+1) m' acc H5):=by
 refine ug (Q:=λ_ H=>C H) n (λi acc H2=>acc=(List.range i).filterMap f/\H2 p=some (.lst acc)/\aA H1 H2) ⟨rfl,av,ag hp _⟩ ?_ ?_
 ·rintro i acc H2 hi⟨rfl,h2,s2⟩;obtain⟨g1,g2⟩:=Kf i H2 hi s2;have lng:((List.range i).filterMap f).length<sizeLine:=by have :=List.length_filterMap_le f (List.range i);rw[List.length_range]at this;omega
  refine⟨g1,λx H3 y=>g2 x H3 y _ _ (λv H6 e s6=>⟨s6 _ _ h2,lng,nx hi ⟨?_,av,iy (s2.trans s6) hp⟩⟩) λH5 e s5=>nx hi ⟨?_,s5 _ _ h2,s2.trans s5⟩⟩;·rw[List.range_succ,List.filterMap_append];simp[e]
  ·rw[List.range_succ,List.filterMap_append];simp[e]
 ·rintro acc H2⟨rfl,h2,s2⟩;exact hd H2 s2 h2
theorem xT{J:It}{p:Addr}{H1:Hp}{g:TG}{te:TE}{b:L2.St}{C:Hp->Prop}(n:Nat)(f:Nat->V)(hp:H1 p=none)(hn:n<=sizeLine)(Kf:∀i H2,i<n->aA H1 H2->J.go i H2/\∀x H3,J.Cf i H2 x H3->∀(R:V->Hp->Prop),(∀H6,aA H2 H6->R (f i) H6)->g x b H3 λje H4=>te je H4 R)(hd:∀H2,aA H1 H2->H2 p=some (.lst ((List.range n).map f))->J.stop n H2/\C H2):∃W:Nat->Nat->List V->Hp->Prop,(∃m,W 0 m [] (upd H1 p (.lst [])))/\∀i m acc H2,W i m acc H2->(J.stop i H2/\C H2)\/(J.go i H2/\∀x H3,J.Cf i H2 x H3->g x b H3 λje H4=>CW je H4 λok H5=>if ok=true then te je H5 λv H6=>H6 p=some (.lst acc)/\acc.length<sizeLine/\∃m',m'<m/\W (i+1) m' (acc++[v]) (upd H6 p (.lst (acc++[v])))else∃m',m'<m/\W (i+1) m' acc H5):=by
 refine ug (Q:=λ_ H=>C H) n (λi acc H2=>acc=(List.range i).map f/\H2 p=some (.lst acc)/\aA H1 H2) ⟨rfl,av,ag hp _⟩ ?_ ?_;·rintro i acc H2 hi⟨rfl,h2,s2⟩;obtain⟨g1,g2⟩:=Kf i H2 hi s2;refine⟨g1,λx H3 y=>?_⟩;simp only[CW,if_true];refine g2 x H3 y _ λH6 s6=>⟨s6 _ _ h2,by rw[List.length_map,List.length_range];omega,nx hi ⟨?_,av,iy (s2.trans s6) hp⟩⟩;rw[List.range_succ,List.map_append];rfl
 ·rintro acc H2⟨rfl,h2,s2⟩;exact hd H2 s2 h2
end L3
end
section
namespace HT
open PySem PyProof.Rows
section
open PySem.SeqAt
open PySem.AutoSeq1(wpAny_loadPart')
open PySem.MeetsSeq PySem.MeetsSeq2 PySem.MeetsSeq3
variable{prog:Program}{w:World}{A:Around}{E:Value->Shared->Prop}{s:Shared}
theorem jd{t sl:Addr}{items:Array Value}{vl vu:Value}{lo hi:Option Int}{Q:Value->Shared->Prop}(ht:IsTup s.heap t items)(hs:s.heap.IsSliceOf sl vl vu .none)(pl:IsPart vl lo)(pu:IsPart vu hi)(h1:dw items.size 0 lo=0)(h2:dw items.size items.size hi=items.size)(h:Q (.ref t) s):wpAny (model prog w) A (getItem (.ref t) (.ref sl)) Q E s:=by
 obtain⟨os,SS,FG,Xc⟩:=id hs;have Uj:s.TypeIs (.ref sl) "slice":=⟨os,SS,FG⟩;unfold getItem;try with_reducible refine wpAny_holding ?_
 first|refine wpAny_bind (wpAny_pure ?_)|skip
 refine wpAny_bind (wpAny_sequenceKey ht.typeIs (by decide) ?_);refine wpAny_bind (wpAny_callSpecial?_slot (name:=Str.ofString "__getitem__") ht.typeIs PyProof.Rows.slot_tuple_getitem (wpAny_call_entry PyProof.Rows.slot_tuple_getitem ht.typeIs entry_tuple_getitem ?_ (args_tuple_getitem _ _)));show wpAny _ _ (Builtin.Tuple.tupleItemsOf (.ref t)>>=_) _ _ s;refine wpAny_bind (tupleItemsOf_ ht ?_);refine wpAny_bind (wpAny_typeOf Uj ?_);rw[if_pos (by decide)];refine wpAny_bind (f9 hs pl pu ?_);have aaN:(((dw items.size 0 lo:Nat):Int)==0&&(1:Int)==1&&(dw items.size items.size hi-dw items.size 0 lo)==items.size)=true:=by rw[h1,h2];simp
 show wpAny _ _ (if(((dw items.size 0 lo:Nat):Int)==0&&(1:Int)==1&&(dw items.size items.size hi-dw items.size 0 lo)==items.size)=true then _ else _) _ _ s;rw[if_pos aaN];show wpAny _ _ (Builtin.Tuple.tupleIsExact (.ref t)>>=_) _ _ s;refine wpAny_bind ?_;unfold Builtin.Tuple.tupleIsExact;refine wpAny_bind (wpAny_typeOf ht.typeIs (wpAny_pure ?_));rw[if_pos (by decide)];exact wpAny_bind (wpAny_rule (wpAny_pure ⟨_,rfl,wpAny_pure h⟩))
end
end HT
namespace L3
open PySem PySem.Spec PyProof.Rows L2
noncomputable def abx(K:PySem.W.Frag):V->Option Int->Option Int->Hp->VK->Prop:=λx lo hi H Q=>∃a xs,x= .ref a/\bN K H a xs/\(∀p,H p=none->Q (.ref p) (upd H p (.tup (gG xs lo hi))))/\(gG xs lo hi=xs->Q (.ref a) H)
theorem yB{X:Cx}:Pt X (abx X.K):=by
 intro pins s σ H x v vl vu lo hi sl Q I rx hs pl pu h;obtain⟨a,xs,rfl,hx,q1,q2⟩:=h;by_cases hw:HT.dw xs.length 0 lo=0/\HT.dw xs.length xs.length hi=xs.length
 ·cases rx;obtain⟨aI,r,ht,hz⟩:=I.tuple hx;have hlen:aI.toArray.size=xs.length:=by rw[List.size_toArray];exact r.length.symm
  refine⟨"tuple",_,PyProof.Rows.slot_tuple_getitem.lookup,ht.typeIs,?_⟩;refine HT.jd ht hs pl pu (by rw[hlen];exact hw.1) (by rw[hlen];exact hw.2) ⟨.ref a,H,I,rfl,q2 ?_⟩;unfold gG;rw[hw.1,hw.2,List.drop_zero,Nat.sub_zero,List.take_length]
 ·exact U1 pins s σ H _ v vl vu lo hi sl Q I rx hs pl pu ⟨a,xs,rfl,hx,hw,q1⟩
theorem lP(xs:List V)(k:Nat):gG xs (some (k:Int)) none=xs.drop k:=by
 unfold gG;rw[HT.A7,HT.Gr];by_cases h:k<=xs.length;·rw[Nat.min_eq_left h];exact List.take_of_length_le (by rw[List.length_drop];omega)
 ·rw[Nat.min_eq_right (by omega),List.drop_eq_nil_of_le (Nat.le_refl _),List.drop_eq_nil_of_le (show xs.length<=k by omega)];simp
theorem Fx(xs:List V)(k:Nat):gG xs none (some (k:Int))=xs.take k:=by
 unfold gG;rw[HT.A7,HT.Gr,List.drop_zero,Nat.sub_zero];by_cases h:k<=xs.length;·rw[Nat.min_eq_left h]
 ·rw[Nat.min_eq_right (by omega),List.take_of_length_le (Nat.le_refl _),List.take_of_length_le (show xs.length<=k by omega)]
end L3
end
section
namespace L3
open PySem PySem.Spec PyProof.Rows L2
section
variable{X:Cx}{K:PySem.W.Frag}
theorem y_(hK:X.K=K:=by rfl):jl X (.builtin "isinstance") (λxs H Q=>∃x t n b,xs=[x, .ty n]/\jz K H x t/\PySem.W.kitOne K t (.type n)=some b/\Q (.bl b) H):=by subst hK;exact iF
end
end L3
end
section
namespace L3
open PySem PySem.Spec PyProof.Rows L2
noncomputable def lY:List Nat->Nat|[]=>0|a::r=>max a (lY r)
end L3
end
section
namespace L3
open PySem PySem.Spec L2
variable{K:PySem.W.Frag}
noncomputable def wu(K:PySem.W.Frag)(a:Addr)(xs:List V):Prop:=∃(o:Obj)(aI:Array Value)(n:Nat),K.lookup a=some o/\o.cls= .type "tuple"/\o.data= .seq aI n/\aI.size<=sizeLine/\Vals xs aI.toList
structure KD(K:PySem.W.Frag)(a:Addr)(rows:List (Str×List V))(as:List Addr):Prop where
 len:as.length=rows.length
 tab:jE K a ((rows.zip as).map λp=>(p.1.1,V.ref p.2))
 sq:∀p∈rows.zip as,wu K p.2 p.1.2
theorem xk{α β:Type}{x:Str}(f:(Str×α)×β->V):∀(rows:List (Str×α))(as:List β),as.length=rows.length->(∃r a,(r,a)∈rows.zip as/\r.1=x/\rows.lookup x=some r.2/\PyProof.Rows.KTD.datumAt x ((rows.zip as).map λp=>(p.1.1,f p))=some (f (r,a)))\/(rows.lookup x=none/\PyProof.Rows.KTD.datumAt x ((rows.zip as).map λp=>(p.1.1,f p))=none)
 |[],_,_=> .inr ⟨rfl,rfl⟩
 |(k,v)::rows,[],h=>by simp at h
 |(k,v)::rows,a::as,h=>by
  have ih:=xk (x:=x) f rows as (by simpa using h);by_cases e:x=k;·subst e;exact .inl ⟨(x,v),a,List.mem_cons_self,rfl,by simp[List.lookup],by simp[PyProof.Rows.KTD.datumAt]⟩
  ·have e1:(x==k)=false:=by simpa using e
   have e2:¬k=x:=λz=>e z.symm;rcases ih with⟨r,b,h1,h2,h3,h4⟩|⟨h1,h2⟩;·exact .inl ⟨r,b,List.mem_cons_of_mem _ h1,h2,by rw[List.lookup_cons,e1];exact h3,by simp only[List.zip_cons_cons,List.map_cons,PyProof.Rows.KTD.datumAt,e,decide_false,Bool.false_eq_true,if_false];exact h4⟩
   ·exact .inr ⟨by rw[List.lookup_cons,e1];exact h1,by simp only[List.zip_cons_cons,List.map_cons,PyProof.Rows.KTD.datumAt,e,decide_false,Bool.false_eq_true,if_false];exact h2⟩
theorem KD.some{a:Addr}{rows:List (Str×List V)}{as:List Addr}(T:KD K a rows as){x:Str}{ds:List V}(h:rows.lookup x=Option.some ds):∃b,PyProof.Rows.KTD.datumAt x ((rows.zip as).map λp=>(p.1.1,V.ref p.2))=Option.some (.ref b)/\∀H,bN K H b ds:=by
 rcases xk (x:=x) (λp=>V.ref p.2) rows as T.len with⟨r,b,h1,h2,h3,h4⟩|⟨h1,_⟩;·rw[h]at h3;cases h3;exact⟨b,h4,λH=> .inr (T.sq _ h1)⟩
 ·rw[h]at h1;cases h1
noncomputable def aV:List V->List Value->Bool|[],[]=>true| .str x::vs, .str y _::us=>decide (x=y)&&aV vs us| .int i::vs, .int j _::us=>decide (i=j)&&aV vs us|_,_=>false
theorem jt:∀{vs:List V}{us:List Value},aV vs us=true->Vals vs us|[],[],_=> .nil| .str x::vs, .str y t::us,h=>by simp only[aV,Bool.and_eq_true,decide_eq_true_eq]at h;obtain⟨rfl,h⟩:=h;exact .cons ⟨t,rfl⟩ (jt h)| .int x::vs, .int y t::us,h=>by simp only[aV,Bool.and_eq_true,decide_eq_true_eq]at h;obtain⟨rfl,h⟩:=h;exact .cons ⟨t,rfl⟩ (jt h)|[],_::_,h=>by simp[aV]at h|_::_,[],h=>by simp[aV]at h| .ba::_,_::_,h=>by simp[aV]at h| .bl _::_,_::_,h=>by simp[aV]at h| .J6 _::_,_::_,h=>by simp[aV]at h| .Uo _::_,_::_,h=>by simp[aV]at h| .ref _::_,_::_,h=>by simp[aV]at h| .ty _::_,_::_,h=>by simp[aV]at h| .str _::_, .none::_,h=>by simp[aV]at h| .str _::_, .int _ _::_,h=>by simp[aV]at h| .str _::_, .ref _::_,h=>by simp[aV]at h| .str _::_, .bool _::_,h=>by simp[aV]at h| .str _::_, .float _ _::_,h=>by simp[aV]at h| .str _::_, .bytes _ _::_,h=>by simp[aV]at h| .str _::_, .type _::_,h=>by simp[aV]at h| .str _::_, .builtin _::_,h=>by simp[aV]at h| .str _::_, .ellipsis::_,h=>by simp[aV]at h| .str _::_, .notImplemented::_,h=>by simp[aV]at h| .int _::_, .none::_,h=>by simp[aV]at h| .int _::_, .str _ _::_,h=>by simp[aV]at h| .int _::_, .ref _::_,h=>by simp[aV]at h| .int _::_, .bool _::_,h=>by simp[aV]at h| .int _::_, .float _ _::_,h=>by simp[aV]at h| .int _::_, .bytes _ _::_,h=>by simp[aV]at h| .int _::_, .type _::_,h=>by simp[aV]at h| .int _::_, .builtin _::_,h=>by simp[aV]at h| .int _::_, .ellipsis::_,h=>by simp[aV]at h| .int _::_, .notImplemented::_,h=>by simp[aV]at h
noncomputable def bM(vs:List V)(aI:Array Value):Bool:=aV vs aI.toList&&decide (aI.size<=100)
theorem bR{K:PySem.W.Frag}{a:Addr}{d:Option Addr}{aI:Array Value}{n:Nat}{sl:Array (Option Value)}{vs:List V}(h:K.lookup a=some ⟨.type "tuple",d, .seq aI n,sl⟩)(c:bM vs aI=true):wu K a vs:=by simp only[bM,Bool.and_eq_true,decide_eq_true_eq]at c;exact⟨_,aI,n,h,rfl,rfl,Nat.le_trans c.2 (by decide),jt c.1⟩
noncomputable def eP:List DictEntry->List Str->Bool|[],[]=>true|e::es,k::ks=>(match e.key,e.val with| .str x _, .ref _=>decide (x=k)|_,_=>false)&&eP es ks|_,_=>false
noncomputable def refsOf(es:List DictEntry):List Addr:=es.map λe=>match e.val with| .ref a=>a|_=>0
theorem yd:∀{es:List DictEntry}{ks:List Str},eP es ks=true->PyProof.Rows.KTD.Rows RelV es ((ks.zip (refsOf es)).map λp=>(p.1,V.ref p.2))
 |[],[],_=> .nil
 |[],_::_,h=>by simp[eP]at h
 |_::_,[],h=>by simp[eP]at h
 |e::es,k::ks,h=>by
  obtain⟨hs,key,val⟩:=e;rw[eP,Bool.and_eq_true]at h;cases key with
   |str x t=>
    cases val with
     |ref b=>
      have h1:x=k:=by simpa using h.1
      subst h1;exact .cons rfl rfl (yd h.2)
     |_=>simp at h
   |_=>simp at h
theorem Wb{a:Addr}{es:Array DictEntry}{ep:Nat}{rows:List (Str×List V)}{as:List Addr}(sy:(a==sysModules)=false)(lk:K.lookup a=some ⟨.type "dict",none, .dict es ep,#[]⟩)(ks:eP es.toList (rows.map (·.1))=true)(rf:refsOf es.toList=as)(hl:as.length=rows.length)(sq:∀p∈rows.zip as,wu K p.2 p.1.2):KD K a rows as:=by refine⟨hl,⟨sy,_,es,ep,lk,⟨rfl,rfl,rfl⟩,rfl,?_⟩,sq⟩;have h:=yd ks;rw[rf,List.zip_map_left,List.map_map]at h;exact h
theorem bX{r:Str×List V}{b:Addr}{rows:List (Str×List V)}{as:List Addr}(h:wu K b r.2)(t:∀p∈rows.zip as,wu K p.2 p.1.2):∀p∈(r::rows).zip (b::as),wu K p.2 p.1.2:=λp hp=>by
 rcases List.mem_cons.mp hp with rfl|hp;·exact h
 ·exact t p hp
theorem Ug:∀p∈([]:List (Str×List V)).zip ([]:List Addr),wu K p.2 p.1.2:=λp hp=>by simp at hp
noncomputable def gV:List DictEntry->List (Str×Int)->Bool|[],[]=>true|e::es,(k,i)::ks=>(match e.key,e.val with| .str x _, .int j _=>decide (x=k)&&decide (j=i)|_,_=>false)&&gV es ks|_,_=>false
theorem vQ:∀{es:List DictEntry}{ks:List (Str×Int)},gV es ks=true->PyProof.Rows.KTD.Rows RelV es (ks.map λp=>(p.1,V.int p.2))
 |[],[],_=> .nil
 |[],_::_,h=>by simp[gV]at h
 |_::_,[],h=>by simp[gV]at h
 |e::es,(k,i)::ks,h=>by
  obtain⟨hs,key,val⟩:=e;rw[gV,Bool.and_eq_true]at h;cases key with
   |str x t=>
    cases val with
     |int b u=>
      have h1:x=k/\b=i:=by simpa using h.1
      obtain⟨rfl,rfl⟩:=h1;exact .cons rfl ⟨u,rfl⟩ (vQ h.2)
     |_=>simp at h
   |_=>simp at h
theorem Qb{a:Addr}{es:Array DictEntry}{ep:Nat}{rows:List (Str×Int)}(sy:(a==sysModules)=false)(lk:K.lookup a=some ⟨.type "dict",none, .dict es ep,#[]⟩)(ks:gV es.toList rows=true):jE K a (rows.map λp=>(p.1,V.int p.2)):=⟨sy,_,es,ep,lk,⟨rfl,rfl,rfl⟩,rfl,vQ ks⟩
end L3
end
section
namespace L3
open PySem PySem.Spec PyProof.Rows L2
structure MadeX(h h':Heap)(e C:Addr)(hh:Option Value):Prop where
 keeps:∀b o,h.get? b=some o->h'.get? b=some o
 new:h.get? e=none
 there:∃oe vs t c,h'.get? e=some oe/\oe.cls= .ref C/\oe.data= .fields vs/\vs[0]?=some (.ref t)/\vs[1]?=some .none/\vs[2]?=some c/\(hh=none->c= .none)
section
variable{prog:Program}{w:World}{A:Around}{E:Value->Shared->Prop}{s:Shared}
theorem Jn{α:Type}{Q:α->Shared->Prop}{h₀:Heap}{e C:Addr}{vs:List Value}(hb:HB h₀ A)(hm:Heap.MadeExcOf h₀ s.heap e (.ref C) vs)(hE:∀h',MadeX h₀ h' e C A.handled->E (.ref e) {s with heap:=h'}):wpAny (model prog w) A (raiseNew (.ref e):Sem α) Q E s:=by
 obtain⟨t,he,_,_⟩:=hm.there;simp only[raiseNew];refine wpAny_bind (wpAny_handled ?_);rcases hb with hb|⟨a,oe,ws,hb,e1,e2,e3⟩;·rw[hb];refine wpAny_bind (wpAny_pure (wpAny_throw (hE s.heap ⟨hm.keeps,hm.new,_,_,t,_,he,rfl,rfl,rfl,rfl,rfl,λ_=>rfl⟩)))
 ·rw[hb];have ne:a≠e:=λz=>by rw[z,hm.new]at e1;cases e1
  dsimp only;rw[if_pos (by simpa using ne)];refine wpAny_bind (wpAny_holding (B6 (hm.keeps _ _ e1) e2 e3 ?_));refine wpAny_bind ?_;show wpAny (model prog w) A (setField (.ref e) 2 (.ref a)) _ _ _;refine wpAny_setField he rfl (by simp) (wpAny_throw (hE _ ⟨λb o eb=>?_,hm.new,_,_,t, .ref a,Heap.get?_update_self _ he (Obj.isFreed_of_fields (Obj.data_mapFields rfl _)),Obj.cls_mapFields _ _,Obj.data_mapFields rfl _,by simp,by simp,by simp,λz=>by rw[hb]at z;cases z⟩));rw[Heap.get?_update_other _ _ λz=>by rw[<-z,hm.new]at eb;cases eb];exact hm.keeps b o eb
end
noncomputable def lh(K:PySem.W.Frag)(C:Addr):Prop:=∃Tw newId CL,ExcBaseFacts "ValueError" newId CL Tw/\PySem.W.excIn K C Tw newId=true
theorem vU{K:PySem.W.Frag}{h:Heap}{C:Addr}{Tw:List Value}{newId:String}(X:K.In h)(q:PySem.W.excIn K C Tw newId=true):∃bm N nm qn bs P6 sn sub ab col dd k0 k1 k2 k3 k5 mN,h.get? C=some (excClassObj nm qn C N bs bm P6 sn sub ab col dd k0 k1 k2 k3 k5 newId)/\h.Ns N mN/\mN "__init__"=none/\OwnTail h Tw bm:=by
 unfold PySem.W.excIn at q;split at q
 ·rename_i dd cd sl ho;split at q
  ·rename_i C' bm k0 k1 k2 k3 n k5 hm hs;simp only[Bool.and_eq_true,beq_iff_eq,Bool.not_eq_true']at q;obtain⟨⟨⟨⟨⟨rfl,rfl⟩,YI⟩,ht⟩,bJ⟩,VU⟩:=q;obtain⟨nm,bs,mro,ns,qn,hd,sn,sub,ab,col,del⟩:=cd;dsimp only at hm YI bJ VU;subst hm YI;have hsl:sl=#[k0,k1,k2,k3,some (.builtin n),k5]:=by obtain⟨l⟩:=sl;simp only at hs;rw[hs]
   subst hsl;exact⟨bm,ns,nm,qn,bs,hd,sn,sub,ab,col,dd,k0,k1,k2,k3,k5,_,X _ _ ho, .of_isNs (PySem.W.isNs_of_in X bJ),PySem.W.nsMap_none_of_in X bJ VU,PySem.W.tail_of_in X ht⟩
  ·cases q
 ·cases q
noncomputable def Tt(G:Hp->Prop)(t:TA):TS:=λD σ H=>t σ H λvs H1=>vs.length<=100/\G H1
theorem ip{X:Cx}{G:Hp->Prop}{x:Str}{C:Addr}{LH:Expr}{t:TA}{np dR pos:Pos}(hK:lh X.K C)(hm:X.mg x=some (.ref C))(ha:PA X [LH] t)(hxe:∀pins σ H s e h',Inv X pins σ H s->MadeX s.heap h' e C X.A.handled->G H->X.xe (.ref e) {s with heap:=h'})(hc:X.calm=true:=by rfl)(hg:Gl X x:=by rfl)(vY:(x==("__debug__":Str))=false:=by decide)(he:starEach [LH] X.env=[(false,eval LH X.env)]:=by rfl):PS X (.Raise (some (.Call (.Name x np) [LH] [] dR)) none pos) (Tt G t):=by
 intro pins s σ H D I h;obtain⟨Tw,newId,CL,FB,q⟩:=hK;have key:wpAny (model X.prog X.w) X.A (eval (.Call (.Name x np) [LH] [] dR) X.env) (λv bK=>∃e t h₀ vs,v= .ref e/\X.K.In bK.heap/\bK.heap.get? e=some {cls:= .ref C,data:= .fields #[.ref t, .none, .none, .none, .bool false, .none]}/\HB h₀ X.A/\Heap.MadeExcOf h₀ bK.heap e (.ref C) vs/\∀h',MadeX h₀ h' e C X.A.handled->X.xe (.ref e) {bK with heap:=h'}) X.xe s:=by refine wpAny_Call_Name_kw (gK I hg hm ?_ vY);have hpa:=ha dR pins s σ H _ I h;rw[he]at hpa⊢;unfold callWith;refine wpAny_bind (wpAny_holding (Calls.evalArgs_plain (bG hpa λus s1⟨vs,H1,I1,r,hl,g⟩=>wpAny_bind (wpAny_standAt ?_))));obtain⟨bm,N,nm,qn,bs,P6,sn,sub,ab,col,dd,k0,k1,k2,k3,k5,mN,hC,hN,VU,T⟩:=vU I1.iY q;have hb:=I1.hb hc;have hx:=hxe pins σ H1 s1;have ID:=I1.iY;obtain⟨hp,gn,d,tk,os⟩:=s1;show wpAny _ _ (keeperOf (.ref C)>>=_) _ _ _;refine wpAny_bind (wpAny_keeperOf_exc hC ?_);refine wpAny_bind (wpAny_call_exc_subT (hrest:=by rw[List.nil_append,<-r.length];exact Nat.le_trans hl (by decide)) FB T hC hN VU λh' e Jk=>wpAny_bind (wpAny_holding (wpAny_point (wpAny_pure ?_))));obtain⟨t,ht,_,_⟩:=Jk.there;exact⟨e,t,hp,_,rfl,ID.keeps Jk.keeps,ht,hb,Jk,λQw mx=>hx e Qw I1 mx g⟩
 rw[arm_exec_Raise];refine wpAny_bind (wpAny_standAt ?_);unfold raiseStmt;refine wpAny_bind (wpAny_bind (bG key λv bK h₁=>wpAny_bind (wpAny_standAt (wpAny_pure ?_))));obtain⟨e,t,h₀,vs,rfl,ID,he',hb,Jk,hE⟩:=h₁;obtain⟨bm,N,nm,qn,bs,P6,sn,sub,ab,col,dd,k0,k1,k2,k3,k5,mN,hC,hN,VU,T⟩:=vU ID q;have hcB:(Value.ref C::bm).contains (.type "BaseException")=true:=by rw[List.contains_cons,T.hasType FB.hasBase,Bool.or_true]
 obtain⟨hp,gn,d,tk,os⟩:=bK;repeat(first|with_reducible refine wpAny_loadPart_at he' ?_|with_reducible refine wpAny_loadPart_at hC ?_|(with_reducible refine wpAny_isSubtype_exc hC ?_;rw[hcB])|wp_step)
 exact Jn hb Jk hE
end L3
end
section
namespace L3
open PySem PySem.Spec PyProof.Rows L2
noncomputable def Ex(h:Heap)(a C:Addr)(T c:Value):Prop:=∃oe vs a0,h.get? a=some oe/\oe.cls= .ref C/\oe.data= .fields vs/\vs[0]?=some a0/\vs[1]?=some T/\vs[2]?=some c
noncomputable def Tb(h:Heap)(T:Addr)(fl:Value):Prop:=∃oT ts,h.get? T=some oT/\oT.data= .fields ts/\ts[3]?=some fl
structure J9(fs:List Addr)(xs:List Addr)(h h':Heap):Prop where
 keep:∀b o,h.get? b=some o->b∉fs->b∉xs->h'.get? b=some o
 slot:∀b o,h.get? b=some o->b∈fs->b∉xs->∃sl,h'.get? b=some {o with slots:=sl}
section
variable{M:Model}{A:Around}{E:Value->Shared->Prop}{s:Shared}
theorem LR{base:Heap}{l:List Env}{b:Addr}{o:Obj}{vs:Array Value}(hl:s.heap.FunFrames base l)(e:s.heap.get? b=some o)(d:o.data= .fields vs):b∉hI l:=λhm=>by obtain⟨_,o',ho,nf⟩:=hl.mem hm;rw[e]at ho;cases ho;exact nf vs d
theorem xp{base:Heap}{env:Env}{outer:List Env}{L a C:Addr}{head T c:Value}{OY:Bool}{Q:Unit->Shared->Prop}(Pg:A.frames=some (env::outer))(hl:s.heap.FunFrames base (env::outer))(hf:env.frame=some L)(x:Ex s.heap a C T c)(h:∀h' T',Ex h' a C (.ref T') c->Tb h' T' (rawInt L)->s.heap.get? T'=none->T'≠a->J9 (hI (env::outer)) [a] s.heap h'->Q () {s with heap:=h'}):wpAny M A (do let f<-frameOf env;let pl<-entryPlaceOf L OY;let b<-EntryCells.newEntry head f .none (rawInt L) .none pl;setField (.ref a) 1 b) Q E s:=by
 obtain⟨oe,vs,a0,he,hc,hd,h0,h1,h2⟩:=x;have yQ:a∉hI (env::outer):=LR hl he hd;refine wpAny_bind (wpAny_frameOf_fun Pg hl hf λk1 hs=>wpAny_bind (wpAny_entryPlaceOf λpl wy=>?_));unfold EntryCells.newEntry newFields;refine wpAny_bind (wpAny_newObj_type ?_ (wy.sizeOk5 _ _ _ _ _));have he1:k1.get? a=some oe:=(hs.2.1 a yQ).trans he;have sz:k1.objs.size=s.heap.objs.size:=hs.1;have nT:k1.objs.size≠a:=Nat.ne_of_gt (Heap.lt_size he1);refine wpAny_setField (Heap.get?_push_of_some _ he1) hd (Array.getElem?_eq_some_iff.mp h1).1 (h _ k1.objs.size ?_ ?_ ?_ nT ?_)
 ·refine⟨_,_,a0,Heap.get?_update_self _ (Heap.get?_push_of_some _ he1) (Obj.isFreed_of_fields (Obj.data_mapFields hd _)),(Obj.cls_mapFields _ _).trans hc,Obj.data_mapFields hd _,?_,?_,?_⟩;·rw[Array.getElem?_setIfInBounds_ne (by decide)];exact h0
  ·have :=(Array.getElem?_eq_some_iff.mp h1).1;simp[this]
  ·rw[Array.getElem?_setIfInBounds_ne (by decide)];exact h2
 ·refine⟨_,_,(Heap.get?_update_other _ _ (Ne.symm nT)).trans (Heap.get?_push_size _ rfl),rfl,?_⟩;first|(simp;done)|(rcases wy with rfl|⟨_,_,_,_,_,_,_,rfl⟩<;>simp)
 ·rw[sz];exact Heap.get?_none_of_le (Nat.le_refl _)
 ·refine⟨λb o e n m=>?_,λb o e n m=>?_⟩;·have e1:k1.get? b=some o:=(hs.2.1 b n).trans e;rw[Heap.get?_update_other _ _ λz=>m (by simp[z])];exact Heap.get?_push_of_some _ e1
  ·obtain⟨sl,e1⟩:=hs.2.2 b o e;refine⟨sl,?_⟩;rw[Heap.get?_update_other _ _ λz=>m (by simp[z])];exact Heap.get?_push_of_some _ e1
theorem DI{base:Heap}{env:Env}{outer:List Env}{L a C:Addr}{c:Value}{Q:Unit->Shared->Prop}(Pg:A.frames=some (env::outer))(hl:s.heap.FunFrames base (env::outer))(hf:env.frame=some L)(x:Ex s.heap a C .none c)(h:∀h' T',Ex h' a C (.ref T') c->Tb h' T' (rawInt L)->s.heap.get? T'=none->T'≠a->J9 (hI (env::outer)) [a] s.heap h'->Q () {s with heap:=h'}):wpAny M A (noteFrame (.ref a) env) Q E s:=by obtain⟨oe,vs,a0,he,hc,hd,h0,h1,h2⟩:=id x;unfold noteFrame;simp only[hf];refine wpAny_bind (wpAny_field he hd h1 ?_);rw[if_neg (by decide)];exact xp Pg hl hf x h
theorem xo{base:Heap}{env:Env}{outer:List Env}{L a C T:Addr}{c:Value}{Q:Unit->Shared->Prop}(Pg:A.frames=some (env::outer))(hl:s.heap.FunFrames base (env::outer))(hf:env.frame=some L)(x:Ex s.heap a C (.ref T) c)(y:Tb s.heap T .none)(ZV:T≠a)(h:∀h' T',Ex h' a C (.ref T') c->Tb h' T' (rawInt L)->s.heap.get? T'=none->T'≠a->J9 (hI (env::outer)) [a,T] s.heap h'->Q () {s with heap:=h'}):wpAny M A (noteFrame (.ref a) env) Q E s:=by
 obtain⟨oe,vs,a0,he,hc,hd,h0,h1,h2⟩:=id x;obtain⟨oT,ts,hT,dT,h3⟩:=y;unfold noteFrame;simp only[hf];refine wpAny_bind (wpAny_field he hd h1 ?_);rw[if_pos (show(Value.ref T !=Value.none)=true from by simp)];refine wpAny_bind (wpAny_field hT dT h3 ?_);rw[if_neg (show¬((Value.none==rawInt L)=true)from by simp[rawInt])];refine wpAny_bind (wpAny_setField hT dT (Array.getElem?_eq_some_iff.mp h3).1 ?_);have Dd:∀b,b≠T->(s.heap.update T (Obj.mapFields (·.setIfInBounds 3 Value.none))).get? b=s.heap.get? b:=λb hb=>Heap.get?_update_other _ _ (Ne.symm hb);have nr:∀b o,s.heap.get? b=some o->(∀vs,o.data≠ .fields vs)->b≠T:=λb o hb nf q=>by rw[q,hT]at hb;cases hb;exact nf ts dT
 refine xp (s:={s with heap:=s.heap.update T (Obj.mapFields (·.setIfInBounds 3 Value.none))}) Pg (hl.of_keeps λb o hb nf=>⟨o,(Dd b (nr b o hb nf)).trans hb,rfl⟩) hf ⟨oe,vs,a0,(Dd a (Ne.symm ZV)).trans he,hc,hd,h0,h1,h2⟩ λh' T' x1 x2 x3 x4 x5=>h h' T' x1 x2 ?_ x4 ⟨λb o e n m=>?_,λb o e n m=>?_⟩
 ·by_cases z:T'=T;·rw[z]at x3;have :=Heap.get?_update_self (Obj.mapFields (·.setIfInBounds 3 Value.none)) hT (Obj.isFreed_of_fields (Obj.data_mapFields dT _));rw[x3]at this;cases this
  ·rw[<-Dd T' z];exact x3
 ·exact x5.keep b o ((Dd b λz=>m (by simp[z])).trans e) n λz=>m (by simp at z;simp[z])
 ·exact x5.slot b o ((Dd b λz=>m (by simp[z])).trans e) n λz=>m (by simp at z;simp[z])
theorem fE{a C T:Addr}{c fl:Value}{Q:Unit->Shared->Prop}(x:Ex s.heap a C (.ref T) c)(y:Tb s.heap T fl)(ZV:T≠a)(h:∀h',Ex h' a C (.ref T) c->Tb h' T .none->(∀b,b≠T->h'.get? b=s.heap.get? b)->Q () {s with heap:=h'}):wpAny M A (setFlight (.ref a) none) Q E s:=by obtain⟨oe,vs,a0,he,hc,hd,h0,h1,h2⟩:=x;obtain⟨oT,ts,hT,dT,h3⟩:=y;have l3:=(Array.getElem?_eq_some_iff.mp h3).1;unfold setFlight;refine wpAny_bind (wpAny_field he hd h1 ?_);rw[if_pos (show(Value.ref T !=Value.none)=true from by simp)];have Dd:∀b,b≠T->(s.heap.update T (Obj.mapFields (·.setIfInBounds 3 ((none:Option Addr).elim Value.none λf=>rawInt f)))).get? b=s.heap.get? b:=λb hb=>Heap.get?_update_other _ _ (Ne.symm hb);exact wpAny_setField hT dT l3 (h _ ⟨oe,vs,a0,(Dd a (Ne.symm ZV)).trans he,hc,hd,h0,h1,h2⟩ ⟨_,_,Heap.get?_update_self _ hT (Obj.isFreed_of_fields (Obj.data_mapFields dT _)),Obj.data_mapFields dT _,by simp[l3]⟩ Dd)
theorem AR{base:Heap}{env:Env}{outer:List Env}{L a C:Addr}{c:Value}{Q:Unit->Shared->Prop}(Pg:A.frames=some (env::outer))(hl:s.heap.FunFrames base (env::outer))(hf:env.frame=some L)(x:Ex s.heap a C .none c)(h:∀h' T',Ex h' a C (.ref T') c->Tb h' T' .none->s.heap.get? T'=none->T'≠a->J9 (hI (env::outer)) [a] s.heap h'->Q () {s with heap:=h'}):wpAny M A (leaving env (.ref a)) Q E s:=by unfold leaving;refine wpAny_bind (DI Pg hl hf x λh1 T1 x1 y1 n1 m1 p1=>fE (s:={s with heap:=h1}) x1 y1 m1 λh2 x2 y2 o2=>h h2 T1 x2 y2 n1 m1 ?_);refine⟨λb o e n m=>(o2 b λz=>by rw[z,n1]at e;cases e).trans (p1.keep b o e n m),λb o e n m=>?_⟩;obtain⟨sl,q⟩:=p1.slot b o e n m;exact⟨sl,(o2 b λz=>by rw[z,n1]at e;cases e).trans q⟩
theorem DA{base:Heap}{env:Env}{outer:List Env}{L a C T:Addr}{c:Value}{Q:Unit->Shared->Prop}(Pg:A.frames=some (env::outer))(hl:s.heap.FunFrames base (env::outer))(hf:env.frame=some L)(x:Ex s.heap a C (.ref T) c)(y:Tb s.heap T .none)(ZV:T≠a)(h:∀h' T',Ex h' a C (.ref T') c->Tb h' T' .none->s.heap.get? T'=none->T'≠a->J9 (hI (env::outer)) [a,T] s.heap h'->Q () {s with heap:=h'}):wpAny M A (leaving env (.ref a)) Q E s:=by unfold leaving;refine wpAny_bind (xo Pg hl hf x y ZV λh1 T1 x1 y1 n1 m1 p1=>fE (s:={s with heap:=h1}) x1 y1 m1 λh2 x2 y2 o2=>h h2 T1 x2 y2 n1 m1 ?_);refine⟨λb o e n m=>(o2 b λz=>by rw[z,n1]at e;cases e).trans (p1.keep b o e n m),λb o e n m=>?_⟩;obtain⟨sl,q⟩:=p1.slot b o e n m;exact⟨sl,(o2 b λz=>by rw[z,n1]at e;cases e).trans q⟩
end
end L3
end
section
namespace L3
open PySem PySem.Spec PyProof.Rows L2
theorem C4{P:Program}{w:World}{H:Hp}{h:Heap}{a:Addr}{o:HO}(x:bV P w H h a o):∃u,h.get? a=some u:=by
 cases o with
  |lst xs=>obtain⟨_,_,_,_,e⟩:=x;exact⟨_,e⟩
  |tup xs=>obtain⟨_,_,_,o,e,_⟩:=x;exact⟨_,e⟩
  |dK aC=>obtain⟨_,_,_,_,o,_,_,e,_⟩:=x;exact⟨_,e⟩
  |dT aC=>obtain⟨_,_,_,_,o,_,_,e,_⟩:=x;exact⟨_,e⟩
  |set S n=>obtain⟨o,_,_,_,e,_⟩:=x;exact⟨_,e⟩
  |ins C dx fs=>obtain⟨_,_,_,e,_⟩:=x;exact⟨_,e⟩
  |own y=>exact x
  |xd fs=>obtain⟨_,⟨_,_,_,e,_⟩,_⟩:=x;exact⟨_,e⟩
  |rng lo hi=>obtain⟨_,_,_,e⟩:=x;exact⟨_,e⟩
  |CA ob u=>obtain⟨e,_⟩:=x;exact⟨_,e⟩
  |wx ps=>cases ps with|tab q ln cl=>rcases x with e|⟨c,e,_⟩<;>exact⟨_,e⟩|code q=>obtain⟨c,o,vs,t,e1,e2,_⟩:=x;cases e1;exact⟨_,e2⟩
  |met f y=>exact⟨_,show h.get? a=some _ from x⟩
  |ext φ=>obtain⟨_,e,_⟩:=x;exact e
theorem kG{P:Program}{w:World}{H:Hp}{h:Heap}{a:Addr}(x:hG P w H h)(e:h.get? a=none):H a=none:=by cases q:H a with|none=>rfl|some o=>obtain⟨u,z⟩:=C4 (x a o q);rw[e]at z;cases z
theorem J9.any{fs xs:List Addr}{h h':Heap}(p:J9 fs xs h h'){b:Addr}{o:Obj}(e:h.get? b=some o)(m:b∉xs):∃sl,h'.get? b=some {o with slots:=sl}:=by
 by_cases hb:b∈fs;·exact p.slot b o e hb m
 ·exact⟨o.slots,p.keep b o e hb m⟩
theorem O6{P:Program}{w:World}{H:Hp}{h h':Heap}{fs xs:List Addr}(x:hG P w H h)(p:J9 fs xs h h')(nf:∀b∈fs,H b=none)(nx:∀b∈xs,H b=none):hG P w H h':=λa o e=>by
 have st:∀b u,H b≠none->h.get? b=some u->h'.get? b=some u:=λb u n q=>p.keep b u q (λz=>n (nf b z)) λz=>n (nx b z);refine(x a o e).j3 (λb u hb q=>st b u ?_ q) (λ_ q=>q) λ_ _ q=>q;rcases hb with z|z;·rw[z,e];simp
 ·rw[z];simp
structure Oc(X:Cx)(pins:List (Addr×Obj))(H:Hp)(b:Addr):Prop where
 un:H b=none
 new:X.bO.heap.get? b=none
 loc:b≠X.env.locals
 cel:∀x c,X.env.cells.lookup x=some c->c≠b
 pin:∀p∈X.pn++pins,p.1≠b
section
variable{X:Cx}{pins:List (Addr×Obj)}{σ:L2.St}{H H':Hp}{s s':Shared}{h':Heap}{a:Addr}
theorem jP(I:Inv X pins σ H s)(e:s.heap.get? a=none)(hx:a∉X.ex)(hn:H' a=none):Oc X pins H' a:=by
 refine⟨hn,?_,λz=>?_,λx c q z=>?_,λp hp z=>?_⟩;·cases q:X.bO.heap.get? a with|none=>rfl|some o=>obtain⟨o',z⟩:=I.base.there a o q hx;rw[e]at z;cases z
 ·obtain⟨m,⟨o,_,_,ho,_⟩,_⟩:=I.loc;rw[<-z,e]at ho;cases ho
 ·obtain⟨v,o,ho,_⟩:=I.cell x c q;rw[z,e]at ho;cases ho
 ·have :=(I.pin p hp).1;rw[z,e]at this;cases this
theorem Inv.stp{ch:List Addr}(I:Inv X pins σ H s)(p:J9 (hI X.stack) ch s.heap h')(hc:∀b∈ch,Oc X pins H b):Inv X pins σ H {s with heap:=h'}:=by
 have CN:∀b o,X.bO.heap.get? b=some o->b∉ch:=λb o e z=>by rw[(hc b z).new]at e;cases e
 have nst:∀b o,X.bO.heap.get? b=some o->b∉X.fs->b∉hI X.stack:=λb o e hb z=>by
  rcases List.mem_cons.mp (I.fi b z)with q|q;·have :=Heap.lt_size e;rw[q]at this;exact absurd this (Nat.not_lt.mpr I.ok.above)
  ·exact hb q
 have cellK:∀x c,X.env.cells.lookup x=some c->∀v,s.heap.IsCell c v->h'.IsCell c v:=λx c e v⟨o,ho,hd⟩=>by obtain⟨sl,q⟩:=p.any ho λz=>(hc c z).cel x c e rfl;exact⟨_,q,hd⟩
 refine⟨I.ok,I.os,I.bare,⟨λb o e n hb hx=>?_,λb o e n hb hx=>?_,λb o e n hx=>I.base.free b o e n hx,λb o e hx=>?_,I.base.uW,I.base.nA,I.base.m_⟩,?_,λx c e=>?_,I.free,I.dW,λq hq=>?_,O6 I.bJ p I.Aj λb hb=>(hc b hb).un,I.len⟩;·exact p.keep b o (I.base.keep b o e n hb hx) (nst b o e hb) (CN b o e)
 ·obtain⟨sl,e1⟩:=I.base.slot b o e n hb hx;obtain⟨W9,e2⟩:=p.any e1 (CN b o e);exact⟨W9,e2⟩
 ·obtain⟨o',e1⟩:=I.base.there b o e hx;obtain⟨sl,e2⟩:=p.any e1 (CN b o e);exact⟨_,e2⟩
 ·obtain⟨m,⟨o,es,ep,ho,r⟩,hl⟩:=I.loc;obtain⟨sl,hL⟩:=p.any ho λz=>(hc _ z).loc rfl;refine⟨m,⟨_,es,ep,hL,r⟩,λi x v e1 e2 e3=>?_⟩;obtain⟨u,r,l⟩:=hl i x v e1 e2 e3;refine⟨u,r,?_⟩;rcases l with l|⟨k,c,e,z⟩;·exact .inl l
  ·exact .inr ⟨k,c,e,cellK x c e _ z⟩
 ·obtain⟨v,z⟩:=I.cell x c e;exact⟨v,cellK x c e v z⟩
 ·obtain⟨e,n,ne,nf,d⟩:=I.pin q hq;exact⟨p.keep q.1 q.2 e (λz=>(List.mem_cons.mp (I.fi q.1 z)).elim ne nf) λz=>(hc q.1 z).pin q hq rfl,n,ne,nf,d⟩
end
structure P8(X:Cx)(pins:List (Addr×Obj))(H:Hp)(s:Shared)(a C T:Addr)(c fl:Value):Prop where
 ex:Ex s.heap a C (.ref T) c
 tb:Tb s.heap T fl
 ne:T≠a
 fa:Oc X pins H a
 fT:Oc X pins H T
noncomputable def eJ(P:Program)(w:World):nH:=λhh outer H s E e s'=>∃(a C T:Addr)(c:Value)(H':Hp),e= .ref a/\s'.os=s.os/\AllBare s'.gens/\Un (hI outer) [] H H' s.heap s'.heap/\hG P w H' s'.heap/\Ex s'.heap a C (.ref T) c/\(hh=none->c= .none)/\Tb s'.heap T .none/\T≠a/\H' a=none/\H' T=none/\s.heap.get? a=none/\s.heap.get? T=none/\E (.ref C) none H'
section
variable{X:Cx}{pins:List (Addr×Obj)}{σ:L2.St}{H:Hp}{s s':Shared}{E:XK}{e:Value}{hh:Option Value}
theorem Kr(I:Inv X pins σ H s)(hx:X.ex=[])(h:eJ X.prog X.w hh X.stack H s E e s'):∃a C T c H',e= .ref a/\Inv X pins σ H' s'/\P8 X pins H' s' a C T c .none/\(hh=none->c= .none)/\E (.ref C) none H':=by obtain⟨a,C,T,c,H',rfl,os,bare,un,bJ,ex,hc,tb,ne,na,nT,fa,fT,q⟩:=h;refine⟨a,C,T,c,H',rfl,I.Mi os un bJ bare (λb z=>absurd z (by simp)),⟨ex,tb,ne,jP I fa (by rw[hx];simp) na,jP I fT (by rw[hx];simp) nT⟩,hc,q⟩
end
section
variable{P:Program}{w:World}{K:PySem.W.Frag}{mg:Str->Option Value}{base:Heap}{N:List Str}{qual:Str}{sc:Scope}{f:Addr}{cd:Value}{A:Around}{outer:List Env}{bO:Shared}{H₀:Hp}{E:XK}
theorem M0{σ:L2.St}{H:Hp}{s:Shared}{pins:List (Addr×Obj)}{a C T:Addr}{c:Value}{h':Heap}{ch:List Addr}(I:Inv (dZ (eJ P w) P w K mg base N qual sc f cd A outer bO H₀ E) pins σ H s)(p:J9 (hI (dZ (eJ P w) P w K mg base N qual sc f cd A outer bO H₀ E).stack) ch s.heap h')(J8:∀b∈ch,Oc (dZ (eJ P w) P w K mg base N qual sc f cd A outer bO H₀ E) pins H b)(fa:Oc (dZ (eJ P w) P w K mg base N qual sc f cd A outer bO H₀ E) pins H a)(ex:Ex h' a C (.ref T) c)(tb:Tb h' T .none)(nT:s.heap.get? T=none)(ne:T≠a)(hc:A.handled=none->c= .none)(q:E (.ref C) none H):eJ P w A.handled outer H₀ bO E (.ref a) {s with heap:=h'}:=by have J:=Inv.stp I p J8;exact⟨a,C,T,c,H,rfl,J.os,J.bare,J.base,J.bJ,ex,hc,tb,ne,fa.un,kG I.bJ nT,fa.new,(jP (H':=H) I nT (by show T∉[];simp) (kG I.bJ nT)).new,q⟩
theorem Sy{σ:L2.St}{H:Hp}{s:Shared}{pins:List (Addr×Obj)}{a C T:Addr}{c:Value}(I:Inv (dZ (eJ P w) P w K mg base N qual sc f cd A outer bO H₀ E) pins σ H s)(F:P8 (dZ (eJ P w) P w K mg base N qual sc f cd A outer bO H₀ E) pins H s a C T c .none)(hc:A.handled=none->c= .none)(q:E (.ref C) none H):(dZ (eJ P w) P w K mg base N qual sc f cd A outer bO H₀ E).xe (.ref a) s:=by
 refine DA I.ok.frames I.stack rfl F.ex F.tb F.ne λh' T' x1 x2 x3 x4 p=>?_;exact M0 (ch:=[a,T]) I p (λb hb=>by
  rcases List.mem_cons.mp hb with z|z;·rw[z];exact F.fa
  ·rw[List.mem_singleton.mp z];exact F.fT) F.fa x1 x2 x3 x4 hc q
theorem cq{N:List Str}:Passes (eJ P w) (dZ (eJ P w) P w K mg base N qual sc f cd A outer bO H₀ E) E:=λpins σ H s e s' I h=>by obtain⟨a,C,T,c,H',rfl,J,F,hc,q⟩:=Kr I rfl h;exact Sy J F hc q
theorem j4{σ:L2.St}{H:Hp}{s:Shared}{pins:List (Addr×Obj)}{a C:Addr}{h':Heap}(I:Inv (dZ (eJ P w) P w K mg base N qual sc f cd A outer bO H₀ E) pins σ H s)(m:MadeX s.heap h' a C A.handled)(q:E (.ref C) none H):(dZ (eJ P w) P w K mg base N qual sc f cd A outer bO H₀ E).xe (.ref a) {s with heap:=h'}:=by have J:Inv (dZ (eJ P w) P w K mg base N qual sc f cd A outer bO H₀ E) pins σ H {s with heap:=h'}:=I.kept (t':=s.toks) m.keeps;obtain⟨oe,vs,t,c,e1,e2,e3,e4,e5,e6,e7⟩:=m.there;have fa:Oc (dZ (eJ P w) P w K mg base N qual sc f cd A outer bO H₀ E) pins H a:=jP I m.new (by show a∉[];simp) (kG I.bJ m.new);refine AR J.ok.frames J.stack rfl ⟨oe,vs, .ref t,e1,e2,e3,e4,e5,e6⟩ λQw T' x1 x2 x3 x4 p=>?_;exact M0 (ch:=[a]) J p (λb hb=>by rw[List.mem_singleton.mp hb];exact fa) fa x1 x2 x3 x4 e7 q
theorem NO{N:List Str}:PassesOwn (model P w) (dZ (eJ P w) P w K mg base N qual sc f cd A outer bO H₀ E).A (dZ (eJ P w) P w K mg base N qual sc f cd A outer bO H₀ E).env (dZ (eJ P w) P w K mg base N qual sc f cd A outer bO H₀ E).xe:=PassesOwn.leaving
end
theorem Df.MD{P:Program}{w:World}{K:PySem.W.Frag}{mg:Str->Option Value}{x:Str}{st:Stmt}{N ps:List Str}{k:Nat}{sp:Sp}(D:Df K mg x st ps)(S:aK N ps (ae st))(len:∀vs H Q E,sp vs H Q E->vs.length=ps.length)(eE:∀(base:Heap)(f:Addr)(cM:Value)(A:Around)(outer:List Env)(s:Shared)(H:Hp)(vs:List V)(Q:VK)(E:XK),cI k (A.deeper (envOfC x (ae st) s.heap.objs.size f cM))->sp vs H Q E->∃t,eM (dZ (eJ P w) P w K mg base N x (ae st) f cM A outer s H E) (ai st) t/\t {nx:=λ_ H'=>Q .ba H',rt:=Q} (start N vs) H):bI P w K mg (eJ P w) x (k+1) ps sp:=by obtain⟨f,fd,F,m,b⟩:=D;refine⟨f,fd,λbase=>?_,m,F.kp,b⟩;obtain⟨oc,od,kV,doc,pm,an,cM,ct,BG,rfl,lk,wN⟩:=F.ex;exact Ep lk wN S len λA outer s H vs Q E hr Ay=>eE base f cM A outer s H vs Q E hr Ay
end L3
end
section
namespace L3
open PySem PySem.Spec PyProof.Rows L2
noncomputable abbrev By(X:Cx)(a:Addr)(oe:Obj)(cm:Bool):Cx:={X with A:=X.A.mark (some (.ref a)),calm:=cm,pn:=(a,oe)::X.pn,xe:=λ_ _=>False}
section
variable{X:Cx}{pins:List (Addr×Obj)}{σ:L2.St}{H:Hp}{s:Shared}{a:Addr}{oe:Obj}{cm:Bool}
theorem Zg(ok:X.Ok)(hc:cm=true->∃vs,oe.data= .fields vs/\vs[2]?=some .none):(By X a oe cm).Ok:=⟨ok.mod,ok.kind,ok.glob,ok.blt,ok.above,ok.inj,ok.has,ok.Po,λh=>let⟨vs,e1,e2⟩:=hc h; .inr ⟨a,oe,vs,rfl, .inr List.mem_cons_self,e1,e2⟩,ok.frames,ok.Td,ok.Sd,ok.bs,ok.Cz,ok.xf,ok.Ah,ok.gL,ok.Oe⟩
theorem Rn(I:Inv X pins σ H s){vs:Array Value}(e:s.heap.get? a=some oe)(d:oe.data= .fields vs)(F:Oc X pins H a)(hc:cm=true->∃vs,oe.data= .fields vs/\vs[2]?=some .none):Inv (By X a oe cm) pins σ H s:=by
 refine⟨Zg I.ok hc,I.os,I.bare,I.base,I.loc,I.cell,I.free,I.dW,λp hp=>?_,I.bJ,I.len⟩;rcases List.mem_cons.mp (show p∈(a,oe)::(X.pn++pins)from hp)with z|z;·rw[z];exact⟨e,F.un,F.loc,LR I.gL e d,λv q=>by rw[d]at q;cases q⟩
 ·exact I.pin p z
theorem lV(ok:X.Ok)(I:Inv (By X a oe cm) pins σ H s):Inv X pins σ H s:=⟨ok,I.os,I.bare,I.base,I.loc,I.cell,I.free,I.dW,λp hp=>I.pin p (List.mem_cons_of_mem _ hp),I.bJ,I.len⟩
theorem Om{m:Str->Option Value}{i:Nat}{n:Str}{v:Option Value}{h':Heap}{t':Nat}(I:Inv X pins σ H s)(hN:X.N.Nodup)(hi:X.N[i]?=some n)(hx:X.env.scope.names.lookup n=some .local)(hn:s.heap.Ns X.env.locals m)(hl:∀(i:Nat)(x:Str)(v:V),X.N[i]?=some x->σ[i]?=some (some v)->VS X.env.scope x->∃u,RelV v u/\Look X.env s.heap m x u)(VC:h'.Ns X.env.locals (λx=>if x=n then v else m x))(hs:Heap.SameBut X.env.locals s.heap h'):Inv X pins (σ.set i none) H {s with heap:=h',toks:=t'}:=by
 have Dd:∀b o,b≠X.env.locals->s.heap.get? b=some o->h'.get? b=some o:=λb o n e=>(hs.2 b n).trans e;have VW:∀b o,X.bO.heap.get? b=some o->b≠X.env.locals:=λb o e=>Nat.ne_of_lt (Nat.lt_of_lt_of_le (Heap.lt_size e) I.ok.above);have cellK:∀x c,X.env.cells.lookup x=some c->∀v,s.heap.IsCell c v->h'.IsCell c v:=λx c e v⟨o,ho,hd⟩=>⟨o,Dd c o (I.Oq x c e) ho,hd⟩;obtain⟨oL,_,_,hoL,_⟩:=id VC;refine⟨I.ok,I.os,I.bare,⟨λb o e n hb hx=>Dd b o (VW b o e) (I.base.keep b o e n hb hx),λb o e n hb hx=>?_,I.base.free,λb o e hx=>?_,I.base.uW,I.base.nA,I.base.m_⟩,⟨_,VC,λj y v' e1 e2 e3=>?_⟩,λx c e=>?_,I.free,I.dW,λp hp=>?_,λb u e=>?_,by simpa using I.len⟩;·obtain⟨sl,q⟩:=I.base.slot b o e n hb hx;exact⟨sl,Dd b _ (VW b o e) q⟩
 ·obtain⟨o',q⟩:=I.base.there b o e hx;exact⟨o',Dd b _ (VW b o e) q⟩
 ·have hji:j≠i:=λz=>by rw[z]at e2;rw[List.getElem?_set_self']at e2;cases q:σ[i]?<;>rw[q]at e2<;>simp at e2
  rw[List.getElem?_set_ne (Ne.symm hji)]at e2;obtain⟨u,r,l⟩:=hl j y v' e1 e2 e3;have hyn:y≠n:=λz=>hji (vj hN (z▸e1) hi);refine⟨u,r,?_⟩;rcases l with⟨k,l⟩|⟨k,c,e,z⟩;·exact .inl ⟨k,by show(if y=n then v else m y)=some u;rw[if_neg hyn];exact l⟩
  ·exact .inr ⟨k,c,e,cellK y c e _ z⟩
 ·obtain⟨v,z⟩:=I.cell x c e;exact⟨v,cellK x c e v z⟩
 ·obtain⟨e,n,ne,nf,d⟩:=I.pin p hp;exact⟨Dd p.1 p.2 ne e,n,ne,nf,d⟩
 ·have nL:∀c,H c≠none->c≠X.env.locals:=λc n z=>n (by rw[z];exact I.free);refine(I.bJ b u e).j3 (λc o hc q=>Dd c o (nL c ?_) q) (λ_ q=>q) λ_ _ q=>q;rcases hc with z|z;·rw[z,e];simp
  ·rw[z];simp
theorem iS{M:Model}{A:Around}{E:Value->Shared->Prop}{Q:Unit->Shared->Prop}{i:Nat}{n:Str}{pos:Pos}(I:Inv X pins σ H s)(hN:X.N.Nodup)(hi:X.N[i]?=some n)(hx:X.env.scope.names.lookup n=some .local)(h:∀s',Inv X pins (σ.set i none) H s'->Q () s'):wpAny M A (do bindName X.env n .none;unbindBehindTheSuite X.env n pos) Q E s:=by obtain⟨m,hn,hl⟩:=id I.loc;refine wpAny_nameGoes_keeps hx hn (by rw[I.ok.kind];rfl) λh' v VC hs=>h _ (Om I hN hi hx hn hl VC hs)
end
theorem AW{K:PySem.W.Frag}{prog:Program}{w:World}{A:Around}{E:Value->Shared->Prop}{Q:Bool->Shared->Prop}{s:Shared}{a C C':Addr}{oe:Obj}{b:Bool}(X:K.In s.heap)(he:s.heap.get? a=some oe)(hc:oe.cls= .ref C)(hK:lh K C')(e:PySem.W.subIn K (.ref C) (.ref C')=some b)(q:Q b s):wpAny (model prog w) A (excMatches (.ref a) (.ref C')) Q E s:=by
 obtain⟨Tw,newId,CL,FB,qK⟩:=hK;obtain⟨bm,N,nm,qn,bs,P6,sn,sub,ab,col,dd,k0,k1,k2,k3,k5,mN,hC,hN,VU,T⟩:=vU X qK;have hcB:(Value.ref C'::bm).contains (.type "BaseException")=true:=by rw[List.contains_cons,T.hasType FB.hasBase,Bool.or_true]
 have f:=tc_notTuple;have L:=PySem.W.looks_subIn (M:=model prog w) X e;obtain⟨hp,g,d,t,os⟩:=s;unfold excMatches;repeat(first|with_reducible refine wpAny_bind (L.at ?_)|(with_reducible refine wpAny_loadPart_at he ?_;rw[hc])|with_reducible refine wpAny_loadPart_at hC ?_|(with_reducible refine wpAny_isSubtype_exc hC ?_;rw[hcB])|wp_step)
 cases b<;>(wp_walk;exact q)
noncomputable abbrev TH:=Addr->Addr->TS
noncomputable def PH(X:Cx)(hs:List ExceptHandler)(t:TH):Prop:=∀(pins:List (Addr×Obj))(s:Shared)(σ:L2.St)(H:Hp)(D:Ends)(a C T:Addr)(c:Value),Inv X pins σ H s->P8 X pins H s a C T c .none->(X.A.handled=none->c= .none)->t C a D σ H->wpAny (model X.prog X.w) X.A (handleBy (.ref a) X.env hs) (SP X pins D) X.xe s
noncomputable def abw:TH:=λ_ _ _ _ _=>False
theorem SV{X:Cx}:PH X [] abw:=λ_ _ _ _ _ _ _ _ _ _ _ _ h=>h.elim
noncomputable def Cm(X:Cx)(cm:Bool):Prop:=cm=true->X.A.handled=none
section
variable{X:Cx}{cm:Bool}
theorem TN{pins:List (Addr×Obj)}{s:Shared}{H:Hp}{a C T:Addr}{c fl:Value}(F:P8 X pins H s a C T c fl)(hc:X.A.handled=none->c= .none)(hm:Cm X cm):∃oe vs,s.heap.get? a=some oe/\oe.cls= .ref C/\oe.data= .fields vs/\(cm=true->∃vs,oe.data= .fields vs/\vs[2]?=some .none):=by obtain⟨oe,vs,a0,e1,e2,e3,e4,e5,e6⟩:=F.ex;exact⟨oe,vs,e1,e2,e3,λz=>⟨vs,e3,by rw[e6,hc (hm z)]⟩⟩
theorem A_{x:Str}{C':Addr}{np pos:Pos}{pins:List (Addr×Obj)}{s:Shared}{σ:L2.St}{H:Hp}{a C T:Addr}{c:Value}{b:Bool}{R:Result->Shared->Prop}(hK:lh X.K C')(hm:X.mg x=some (.ref C'))(hg:Gl X x)(vY:(x==("__debug__":Str))=false)(I:Inv X pins σ H s)(F:P8 X pins H s a C T c .none)(e:PySem.W.subIn X.K (.ref C) (.ref C')=some b)(h:∀s1,Inv X pins σ H s1->P8 X pins H s1 a C T c .none->R (.ok (if b then .brk else .next)) s1):codeAny (model X.prog X.w) (X.A.mark (some (.ref a))) (.handlers (.ref a) [.ExceptHandler (some (.Name x np)) none [] pos] X.env) R s:=by
 obtain⟨oe,vs,a0,e1,e2,e3,e4,e5,e6⟩:=F.ex;obtain⟨oT,ts,f1,f2,f3⟩:=F.tb;have I0:Inv X ((T,oT)::pins) σ H s:=I.tT λp hp=>by
  rcases List.mem_cons.mp hp with z|z;·rw[z];exact⟨f1,F.fT.un,F.fT.loc,LR I.gL f1 f2,λv q=>by rw[f2]at q;cases q⟩
  ·exact I.pin p (List.mem_append_right _ z)
 have fa':Oc X ((T,oT)::pins) H a:=⟨F.fa.un,F.fa.new,F.fa.loc,F.fa.cel,λp hp=>by
  rcases List.mem_append.mp hp with z|z;·exact F.fa.pin p (List.mem_append_left _ z)
  ·rcases List.mem_cons.mp z with z|z;·rw[z];exact F.ne
   ·exact F.fa.pin p (List.mem_append_right _ z)⟩;have I1:Inv (By X a oe false) ((T,oT)::pins) σ H s:=Rn I0 e1 e3 fa' (λz=>nomatch z);refine codeAny_handlers_test (wpAny_mono (bW (X:=By X a oe false) (a:=C') hm hg vY _ _ _ _ (λv H'=>v= .ref C'/\H'=H) I1 ⟨rfl,rfl⟩) (λv s1 hv=>?_) λ_ _ z=>z.elim);obtain⟨w,H',J,r,rfl,rfl⟩:=hv;cases(show v=Value.ref C' from r);have k1:=(J.pin (a,oe) (by simp)).1;have k2:=(J.pin (T,oT) (by simp)).1;have J0:Inv X pins σ H' s1:=(lV I.ok J).tT λp hp=>I0.ok|>λ_=>(lV I.ok J).pin p (List.mem_append_right _ (List.mem_cons_of_mem _ hp));exact AW J0.iY k1 e2 hK e (h s1 J0 ⟨⟨oe,vs,a0,k1,e2,e3,e4,e5,e6⟩,⟨oT,ts,k2,f2,f3⟩,F.ne,F.fa,F.fT⟩)
theorem MR{pins:List (Addr×Obj)}{s:Shared}{σ:L2.St}{H:Hp}{a C T:Addr}{c fl:Value}{A:Around}{E:Value->Shared->Prop}{Q:Unit->Shared->Prop}(I:Inv X pins σ H s)(F:P8 X pins H s a C T c fl)(hc:X.A.handled=none->c= .none)(hm:Cm X cm)(h:∀s1 oe,Inv (By X a oe cm) pins σ H s1->oe.cls= .ref C->Q () s1):wpAny (model X.prog X.w) A (setFlight (.ref a) none) Q E s:=by
 refine fE F.ex F.tb F.ne λh' x1 x2 ot=>?_;have p:J9 (hI X.stack) [T] s.heap h':=⟨λb o e _ m=>(ot b (by simpa using m)).trans e,λb o e _ m=>⟨o.slots,(ot b (by simpa using m)).trans e⟩⟩;have J:=Inv.stp I p λb hb=>by rw[List.mem_singleton.mp hb];exact F.fT
 have F':P8 X pins H {s with heap:=h'} a C T c .none:=⟨x1,x2,F.ne,F.fa,F.fT⟩;obtain⟨oe,vs,e1,e2,e3,e4⟩:=TN F' hc hm;exact h _ oe (Rn J e1 e3 F.fa e4) e2
noncomputable def D1(i:Nat)(D:Ends):Ends:={nx:=λσ H=>D.nx (σ.set i none) H,rt:=D.rt,bk:=λσ H=>D.bk (σ.set i none) H,ct:=λσ H=>D.ct (σ.set i none) H}
noncomputable def hAs(K:PySem.W.Frag)(i:Nat)(C':Addr)(ts tr:TH):TH:=λC a D σ H=>∃b,PySem.W.subIn K (.ref C) (.ref C')=some b/\if b=true then ts C a (D1 i D) (σ.set i (some (.ref a))) H else tr C a D σ H
theorem W5{x y:Str}{i:Nat}{C':Addr}{np pos:Pos}{Xe:Stmt}{Rg:List Stmt}{rest:List ExceptHandler}{ts tr:TH}(cm:Bool)(hN:X.N.Nodup)(hi:X.N[i]?=some y)(hy:X.env.scope.names.lookup y=some .local)(hK:lh X.K C')(hm:X.mg x=some (.ref C'))(hg:Gl X x)(hcm:Cm X cm)(hs:∀(a C:Addr)(oe:Obj),oe.cls= .ref C->eM (By X a oe cm) (Xe::Rg) (ts C a))(hr:PH X rest tr)(vY:(x==("__debug__":Str))=false:=by decide):PH X (.ExceptHandler (some (.Name x np)) (some y) (Xe::Rg) pos::rest) (hAs X.K i C' ts tr):=by
 intro pins s σ H D a C T c I F hc h;obtain⟨b,e,h⟩:=h;refine wpAny_handleBy_cons (A_ hK hm hg vY I F e λs1 J F1=>?_) (by intro q;cases q);cases b with
  |false=>
   have h:tr C a D σ H:=by simpa using h
   exact hr pins s1 σ H D a C T c J F1 hc h
  |true=>
   have h:ts C a (D1 i D) (σ.set i (some (.ref a))) H:=by simpa using h
   refine codeAny_handlers_suite_as (MR J F1 hc hcm λs2 oe J2 eo=>?_);refine iw (X:=By X a oe cm) (v:= .ref a) J2 hN hi (.inl hy) rfl (λs3 J3=>?_) (.inr hy);refine wpAny_mono (hs a C oe eo pins s3 _ H (D1 i D) J3 h) (λf s4 q=>?_) λ_ _ z=>z.elim;cases f with|next=>obtain⟨aY,H',K',q⟩:=q;exact iS (lV I.ok K') hN hi hy λs5 L=>⟨_,H',L,q⟩|brk=>obtain⟨aY,H',K',q⟩:=q;exact iS (lV I.ok K') hN hi hy λs5 L=>⟨_,H',L,q⟩|cont=>obtain⟨aY,H',K',q⟩:=q;exact iS (lV I.ok K') hN hi hy λs5 L=>⟨_,H',L,q⟩|ret u=>obtain⟨v,aY,H',K',r,q⟩:=q;exact iS (lV I.ok K') hN hi hy λs5 L=>⟨v,_,H',L,r,q⟩
end
noncomputable abbrev TB:=Ends->(Addr->L2.St->Hp->Prop)->L2.St->Hp->Prop
noncomputable def BX(X:Cx)(pins:List (Addr×Obj))(G:Addr->L2.St->Hp->Prop)(e:Value)(s':Shared):Prop:=∃(a C T:Addr)(c:Value)(aY:L2.St)(H':Hp),e= .ref a/\Inv X pins aY H' s'/\P8 X pins H' s' a C T c .none/\(X.A.handled=none->c= .none)/\G C aY H'
noncomputable def PB(X:Cx)(body:List Stmt)(t:TB):Prop:=∀(pins:List (Addr×Obj))(s:Shared)(σ:L2.St)(H:Hp)(D:Ends)(G:Addr->L2.St->Hp->Prop),Inv X pins σ H s->t D G σ H->wpAny (model X.prog X.w) X.A (execs body X.env) (SP X pins D) (BX X pins G) s
noncomputable def aaO(tb:TB)(th:TH):TS:=λD σ H=>tb D (λC aY H'=>∀a,H' a=none->th C a D aY H') σ H
theorem Uq{X:Cx}{body:List Stmt}{h₀:ExceptHandler}{hs:List ExceptHandler}{tb:TB}{th:TH}{pos:Pos}(hx:X.ex=[])(Mw:X.stack=X.env::X.outer)(hf:X.env.frame=some X.env.locals)(hb:PB X body tb)(hh:PH X (h₀::hs) th):PS X (.Try body (h₀::hs) [] [] pos) (aaO tb th):=by
 intro pins s σ H D I h;refine wpAny_Try_except (wpAny_mono (hb pins s σ H D _ I h) (λf s1 q=>?_) λe s1 q=>?_);·cases f with|next=>exact(by first|exact wpAny_execs_nil q|(rw[execs];exact wpAny_pure q)|exact wpAny_pure q)|brk=>exact q|cont=>exact q|ret u=>exact q
 ·obtain⟨a,C,T,c,aY,H',rfl,J,F,hc,q⟩:=q;refine xo (by rw[J.ok.frames,Mw]) (Mw▸J.stack) hf F.ex F.tb F.ne λh1 T1 x1 y1 n1 m1 p1=>fE (s:={s1 with heap:=h1}) x1 y1 m1 λh2 x2 y2 o2=>?_;have J1:Inv X pins aY H' {s1 with heap:=h1}:=Inv.stp J (Mw▸p1) λb hb=>by
   rcases List.mem_cons.mp hb with z|z;·rw[z];exact F.fa
   ·rw[List.mem_singleton.mp z];exact F.fT
  have fT1:Oc X pins H' T1:=jP J n1 (by rw[hx];simp) (kG J.bJ n1);have p2:J9 (hI X.stack) [T1] h1 h2:=⟨λb o e _ m=>(o2 b (by simpa using m)).trans e,λb o e _ m=>⟨o.slots,(o2 b (by simpa using m)).trans e⟩⟩;have J2:Inv X pins aY H' {s1 with heap:=h2}:=Inv.stp (s:={s1 with heap:=h1}) J1 p2 λb hb=>by rw[List.mem_singleton.mp hb];exact fT1
  exact hh pins _ aY H' D a C T1 c J2 ⟨x2,y2,m1,F.fa,fT1⟩ hc (q a F.fa.un)
theorem SU{X:Cx}{x:Str}{k:Nat}{ps:List Str}{sp:Sp}{e:Expr}{es:List Expr}{t:TA}{p pos:Pos}{pins:List (Addr×Obj)}{s:Shared}{σ:L2.St}{H:Hp}{Q:VK}{G:Addr->L2.St->Hp->Prop}(F:bI X.prog X.w X.K X.mg (eJ X.prog X.w) x k ps sp)(hr:cI k X.A)(hg:Gl X x)(hx:X.ex=[])(ha:PA X.Ka (e::es) t)(vY:(x==("__debug__":Str))=false)(he:starEach (e::es) X.env=(false,eval e X.env)::starEach es X.env)(wy:(backTo pos (starEach es X.env)).any (·.1)=false)(hc:X.calm=true)(I:Inv X pins σ H s)(h:t σ H λvs H1=>sp vs H1 Q λCv _ H2=>∃C,Cv= .ref C/\G C σ H2):wpAny (model X.prog X.w) X.A (eval (.Call (.Name x p) (e::es) [] pos) X.env) (EP X pins σ Q) (BX X pins G) s:=by obtain⟨f,fd,F,m,kp,b⟩:=F;refine wpAny_Call_Name_kw (gK I hg m ?_ vY);refine PySem.W.callWith_K (h₀:=X.base) I.ok.mod.ID kp (wpAny_mono (ha pos pins s σ H _ (I.nu _) h) (λus s1⟨vs,H1,I1,r,q⟩=>⟨I1.dX.iY,?_⟩) λ_ _ z=>z.elim) he wy;refine Gb F hr b I1.dX hc (λe s' hc=>?_) r q;obtain⟨a,C,T,c,H',rfl,J,Fl,hn,C',ec,q⟩:=Kr I1.dX hx hc;cases ec;exact⟨a,C,T,c,σ,H',rfl,J,Fl,hn,q⟩
end L3
end
section
namespace L3
open PySem PySem.Spec PyProof.Rows L2
structure uZ(K:PySem.W.Frag)(C:Addr):Prop where
 ga:PySem.W.findIn K (.ref C) "__getattribute__"=some (some (.builtin "BaseException.__getattribute__"))
 cl:PySem.W.findIn K (.ref C) "__class__"=some (some (.builtin "object.__class__"))
 gt:PySem.W.findIn K (.ref C) "__getattr__"=some none
 ob:PySem.W.mroIn K C (.type "object")=some true
 be:PySem.W.mroIn K C (.type "BaseException")=some true
 is:(PySem.W.clsIn K C).isSome=true
section
variable{prog:Program}{w:World}{A:Around}{E:Value->Shared->Prop}{h:Heap}{g:Array GenState}{d:Drawn}{t:Nat}{os:OsState}{a C:Addr}{o:Obj}{K:PySem.W.Frag}
theorem wY{R:Result->Shared->Prop}(X:K.In h)(G:uZ K C)(hx:h.get? a=some o)(hc:o.cls= .ref C)(hq:R (.ok (.ret (.ref C))) ⟨h,g,d,t,os⟩):codeAny (model prog w) A (.call (.builtin "getset_descriptor.__get__") ⟨[.builtin "object.__class__", .ref a, .ref C],[]⟩) R ⟨h,g,d,t,os⟩:=by
 have hT5:(⟨h,g,d,t,os⟩:Shared).TypeIs (.builtin "object.__class__") "getset_descriptor":=F.typeOf_object_class;have L:PySem.W.Looks (model prog w) h (isSubtype (.ref C) (.type (".".intercalate ("object.__class__".cutAt '.').dropLast))) true:=by rw[F.owner_object_class];exact PySem.W.looks_mroIn X G.ob
 refine codeAny_call_builtin F.slot_gs_get.plain F.entry_gs_get (F.slot_gs_get.check _ _ _ _ _ _ _ _ hT5 (F.args_gs_get _ _ _) ?_);repeat(any_goals(first|assumption|(with_reducible refine wpAny_loadPart_at hx ?_;rw[hc])|with_reducible refine wpAny_bind (L.at ?_)|with_reducible refine L.at ?_|wp_step))
 refine⟨Code.quiet_builtin _ (by decide+kernel),codeAny_builtin F.entry_object_class ?_⟩;repeat(any_goals(first|assumption|(with_reducible refine wpAny_loadPart_at hx ?_;rw[hc])|wp_step))
theorem nG{tk:Tok}{Q:Fin->Shared->Prop}(X:K.In h)(G:uZ K C)(hx:h.get? a=some o)(hc:o.cls= .ref C)(hq:Q (.done (.ret (.ref C))) ⟨h,g,d,t,os⟩):wpAny (model prog w) A (Builtin.«object.__getattribute__» ⟨[.ref a, .str "__class__" tk],[]⟩) Q E ⟨h,g,d,t,os⟩:=by
 have hT5:(⟨h,g,d,t,os⟩:Shared).TypeIs (.builtin "object.__class__") "getset_descriptor":=F.typeOf_object_class;have L:=PySem.W.looks_findIn (M:=model prog w) X G.cl;have f5:=F.typeOf_object_class;have f6:=F.slot_gs_get.lookup;have f7:=F.slot_gs_set.lookup;repeat(any_goals(first|assumption|(with_reducible refine wpAny_loadPart_at hx ?_;rw[hc])|with_reducible refine wpAny_bind (L.at ?_)|with_reducible refine L.at ?_|wp_step))
 refine wY X G hx hc ?_;repeat(any_goals(first|assumption|wp_step))
theorem zu{M:Model}{Q8:Value}{Q:Unit->Shared->Prop}(X:K.In h)(G:uZ K C)(hx:h.get? a=some o)(hc:o.cls= .ref C)(hq:Q () ⟨h,g,d,t,os⟩):wpAny M A (checkBuiltinCall "BaseException.__getattribute__" ⟨[.ref a,Q8],[]⟩) Q E ⟨h,g,d,t,os⟩:=by
 have hk:builtinKind "BaseException.__getattribute__"=some .slot:=by decide+kernel
 have Vq:splitId "BaseException.__getattribute__"=some ("BaseException","__getattribute__"):=by decide+kernel
 have L:=PySem.W.looks_mroIn (M:=M) X G.be;have ha:=F.args_bexc_ga (.ref a) Q8;simp only[checkBuiltinCall,hk,Vq];refine wpAny_bind ?_
 ·unfold isInstance;repeat(first|(with_reducible refine wpAny_loadPart_at hx ?_;rw[hc])|with_reducible refine wpAny_bind (L.at ?_)|with_reducible refine L.at ?_|wp_step)
  exact hq
theorem wc{tk:Tok}{R:Result->Shared->Prop}(X:K.In h)(G:uZ K C)(hx:h.get? a=some o)(hc:o.cls= .ref C)(hq:R (.ok (.ret (.ref C))) ⟨h,g,d,t,os⟩):codeAny (model prog w) A (.call (.builtin "BaseException.__getattribute__") ⟨[.ref a, .str "__class__" tk],[]⟩) R ⟨h,g,d,t,os⟩:=codeAny_call_builtin F.excAttr_ValueError.ga.plain F.entry_bexc_ga (zu X G hx hc (nG X G hx hc hq))
theorem yE{tk:Tok}{Q:Value->Shared->Prop}(X:K.In h)(G:uZ K C)(hx:h.get? a=some o)(hc:o.cls= .ref C)(hq:Q (.ref C) ⟨h,g,d,t,os⟩):wpAny (model prog w) A (getAttrBy (.ref a) (.str "__class__" tk) false) Q E ⟨h,g,d,t,os⟩:=by
 have f3:=F.excAttr_ValueError.ga.bind (.ref a);have hx2:(Value.builtin "BaseException.__getattribute__"==Value.builtin "object.__getattribute__")=false:=by decide+kernel
 have hx1:(onTheHeap (Value.ref C)&&Value.builtin "BaseException.__getattribute__"==Value.builtin "object.__getattribute__")=false:=by rw[hx2];rfl
 have L1:=PySem.W.looks_findIn (M:=model prog w) X G.ga;have L2:=PySem.W.looks_findIn (M:=model prog w) X G.gt;repeat(any_goals(first|assumption|(with_reducible refine wpAny_loadPart_at hx ?_;rw[hc])|with_reducible refine wpAny_bind (L1.at ?_)|with_reducible refine L1.at ?_|with_reducible refine wpAny_bind (L2.at ?_)|with_reducible refine L2.at ?_|wp_step))
 refine wc X G hx hc ?_;repeat(any_goals(first|assumption|wp_step))
theorem vV{Q:Option Value->Shared->Prop}(X:K.In h)(G:uZ K C)(hx:h.get? a=some o)(hc:o.cls= .ref C)(hq:Q (some (.ref C)) ⟨h,g,d,t+1,os⟩):wpAny (model prog w) A (getAttr? (.ref a) "__class__") Q E ⟨h,g,d,t,os⟩:=by unfold getAttr? getAttrBy?;repeat(any_goals(first|assumption|with_reducible apply yE X G hx hc|wp_step))
theorem mq{K:PySem.W.Frag}{a C:Addr}(G:uZ K C):PySem.W.KitX K (.ref a) (.ref C) (λh=>∃o,h.get? a=some o/\o.cls= .ref C)where
 ty:=λM h X⟨o,e,c⟩=>by have :=(PySem.W.Looks.ld (M:=M) (part:=none) e);intro A Q E s k q;exact(by first|exact wpAny_bind (wpAny_loadPart (k _ _ e) (wpAny_pure (by rw[c];exact q)))|(unfold typeOf loadHead;exact wpAny_bind (wpAny_loadPart (k _ _ e) (wpAny_pure (by rw[c];exact q))))|(unfold typeOf;exact wpAny_bind (wpAny_loadPart (k _ _ e) (wpAny_pure (by rw[c];exact q)))))
 it:=λM h X _=>by
  have z0:=G.is;unfold PySem.W.clsIn at z0;split at z0;·rename_i c' d' cd' W9 ho;intro A' Q' E' s' k q;unfold isType loadHead;exact wpAny_bind (wpAny_loadPart (k _ _ (X _ _ ho)) (wpAny_pure q))
  ·cases z0
 ne:=λh tp dd aI n sl X e=>by
  have z0:=G.is;unfold PySem.W.clsIn at z0;split at z0
  ·rename_i c' d' cd' W9 ho;by_cases z:C=tp;·have :=X _ _ ho;rw[z,e]at this;cases this
   ·simpa using z
  ·cases z0
 ca:=λ{prog w A E Q s}X⟨o,e,c⟩q=>by obtain⟨h,g,d,t,os⟩:=s;exact vV X G e c q
end
end L3
end
section
namespace L3
open PySem PySem.Spec PyProof.Rows L2
section
variable{X:Cx}{pins:List (Addr×Obj)}{σ:L2.St}{H:Hp}{s:Shared}{a:Addr}{D:List (Str×V)}{k:Str}{tk:Tok}{A:Around}{E:Value->Shared->Prop}
theorem LF{Q:Value->Shared->Prop}(T:jE X.K a D)(I:Inv X pins σ H s)(h:∀w',RelV ((KTD.datumAt k D).getD .ba) w'->Q w' {s with toks:=s.toks+1}):wpAny (model X.prog X.w) A (call (.builtin "dict.get") [.ref a, .str k tk]) Q E s:=by
 have ty:=T.typeIs I;refine wpAny_call_entry PySem.F.slot_dict_get ty PySem.F.entry_dict_get ?_ (PySem.F.args_dict_get_2 _ _);show wpAny (model X.prog X.w) _ (dictGet a (.str k tk)>>=_) _ _ s;refine wpAny_bind (zQ T I (λv u e r=>?_) λhn=>?_);·have h:=h u (by rw[e];exact r);exact wpAny_pure ⟨u,rfl,h⟩
 ·have h:=h .none (by rw[hn];exact rfl);refine wpAny_bind ?_;unfold Builtin.Dict.missed;rw[T.sys];simp only[Bool.false_eq_true,if_false];exact wpAny_pure (wpAny_pure ⟨_,rfl,h⟩)
end
noncomputable def SO(K:PySem.W.Frag)(td ty:TE):TE:=λσ H Q=>td σ H λx H1=>∃a D,x= .ref a/\jE K a D/\ty σ H1 λy H2=>∃k,y= .str k/\Q ((KTD.datumAt k D).getD .ba) H2
theorem NH{X:Cx}{o e:Expr}{apos dR:Pos}{td ty:TE}(ho:PE X o td)(he:PE X e ty)(m:M1 X o "get" apos e dR):PE X (.Call (.Attribute o "get" apos) [e] [] dR) (SO X.K td ty):=by
 intro pins s σ H Q I h;refine wpAny_Call_method m.base m.few m.line PySem.F.plainAttrs_dict PySem.F.slot_dict_get PySem.F.type_dict_get (bG (ho pins s σ H _ I h) λu s1⟨x,H1,I1,rx,a,D,ex,T,q1⟩=>?_);subst ex;obtain rfl:u=Value.ref a:=rx;have t1:=T.typeIs I1;refine⟨t1,λb q=>?_,?_⟩;·cases q;obtain⟨o,_,_,e,x,_⟩:=T.ex;exact⟨o,I1.iY a o e,x.2.1⟩
 rw[m.trees];refine Calls.callWith_builtin rfl (Calls.evalArgs_plain (Calls.spliced_cons (bG (he pins s1 σ H1 _ I1 q1) λiv s2⟨y,H2,I2,ry,k,ey,q2⟩=>Calls.spliced_nil ?_)));subst ey;obtain⟨t,rfl⟩:=ry;exact LF T I2 λw' r=>⟨_,H2,I2.tok _,r,q2⟩
theorem wM:bootBuiltins "ValueError"=some (.type "ValueError"):=by decide+kernel
noncomputable def ZO(K:PySem.W.Frag)(a:Addr):It:=⟨λi H=>∃xs x,bQ K H a xs/\xs[i]?=some x,λi H v H'=>∃p x,v= .ref p/\H p=none/\H'=upd H p (.tup [.int i,x])/\∀xs,bQ K H a xs->xs[i]?=some x,λi H=>∃xs,bQ K H a xs/\xs.length=i⟩
structure aaI(a e it:Addr)(i:Nat)(h:Heap):Prop where
 e:∃old,IsEnum h e it i old
 it:h.IsListIter it a i
theorem Jx{P:Program}{w:World}{K:PySem.W.Frag}{es:List Expr}{k:Nat}{pos:Pos}(a n:Nat):Turn P w K (.Tuple es k pos) (ZO K a) [n+1,n] (n+1) (aaI a (n+1) n)where
 mem:=by simp
 obj:=λi h st c hc=>by
  simp only[List.mem_cons,List.not_mem_nil,or_false]at hc;obtain⟨old,e0⟩:=st.e;obtain⟨o1,e1,_,d1⟩:=st.it;rcases hc with rfl|rfl;·exact⟨_,e0,λv q=>by cases q⟩
  ·exact⟨o1,e1,λv q=>by rw[d1]at q;cases q⟩
 keep:=λi h h' st kp=>by obtain⟨old,e0⟩:=st.e;obtain⟨o1,e1,r1⟩:=st.it;exact⟨⟨old,kp _ (by simp) _ e0⟩,⟨o1,kp _ (by simp) _ e1,r1⟩⟩
 item:=by
  intro X hP hw hK hc i pins s σ H E I hf st hg;subst hP hw hK;obtain⟨xs,x,q1,hx⟩:=hg;obtain⟨jw,De,p1,_⟩:=I.list q1;obtain⟨u1,Zj,R6⟩:=De.get hx;obtain⟨old,e0⟩:=st.e;have Z4:=Heap.lt_size e0;have l1:i<jw.toArray.size:=by rw[List.size_toArray];exact(List.getElem?_eq_some_iff.mp Zj).1
  have na:∀d∈[n+1,n],a≠d:=λd hd=>lQ I q1 (hf d hd);have nh:∀d∈[n+1,n],d∉jy X.A.in1:=λd hd z=>I.Pj hc (hf d hd).2.2.2.1 (hf d hd).2.2.2.2.2 d (j5 z) rfl;have jG:∀d∈[n+1,n],∀a,X.A.in1.handled=some (.ref a)->a≠d:=λd hd=>I.Pj hc (hf d hd).2.2.2.1 (hf d hd).2.2.2.2.2;have hef:n+1∉(n::a::jy X.A.in1):=by simp only[List.mem_cons,not_or];exact⟨by omega,Ne.symm (na (n+1) (by simp)),nh (n+1) (by simp)⟩
  refine wpAny_pyNext_enum_itemD (gd n a (na n (by simp)) (jG n (by simp)) jw.toArray) e0 ⟨st.it,p1.isList,I.hb hc⟩ l1 (Nat.succ_ne_self n) hef λx' h1 tk ex z1 s1 pr sz kp=>?_;have ex:jw.toArray[i]?=some x':=ex;have ex:u1=x':=by rw[List.getElem?_toArray,Zj]at ex;exact Option.some.inj ex
  subst ex;refine⟨_,rfl,wpAny_letOwnedTupleGo_enum (s:={s with heap:=h1,toks:=tk+1}) z1 λh2 z2 sb=>?_⟩;have lt:∀d∈[n+1,n],d<s.heap.objs.size:=λd hd=>by
   have :d<=n+1:=by simp at hd;omega
   exact Nat.lt_of_le_of_lt this Z4
  have up:∀c o,c≠n+1->h1.get? c=some o->h2.get? c=some o:=λc o jg e=>(sb.2 c jg).trans e;have prT:h2.get? s.heap.objs.size=some {cls:= .type "tuple",data:= .seq #[.int i tk,u1]}:=up _ _ (Nat.ne_of_gt Z4) pr;refine⟨.ref s.heap.objs.size,_,xq (s:=s) (h':=h2) (t':=tk+1) (ch:=[n+1,n]) (T:=s.heap.objs.size) (o:= .tup [.int i,x]) I (λc o jg e=>?_) hf (Nat.le_refl _) ?_,rfl,⟨_,x,rfl,I.bJ.fresh (Nat.le_refl _),rfl,λxs' a1=>?_⟩,?_,λd hd=>?_⟩;·simp only[List.mem_cons,List.not_mem_nil,or_false,not_or]at jg;exact up c o jg.1 (kp c o jg.1 jg.2 e)
  ·exact⟨(by show 2<=sizeLine;decide),[.int i tk,u1], .cons ⟨tk,rfl⟩ (.cons R6 .nil),⟨_,prT,rfl,_,rfl⟩⟩
  ·rw[I.jR a1 q1];exact hx
  ·obtain⟨⟨oa,ea,ra⟩,_⟩:=s1;refine⟨⟨_,by simpa using z2⟩,⟨oa,up _ _ (by omega) ea,ra⟩⟩
  ·rw[aX (Nat.ne_of_lt (lt d hd))];exact(hf d hd).1
 done:=by
  intro X hP hw hK hc i pins s σ H E I hf st hg;subst hP hw hK;obtain⟨xs,q1,hl⟩:=hg;obtain⟨jw,De,p1,_⟩:=I.list q1;obtain⟨old,e0⟩:=st.e;have na:∀d∈[n+1,n],a≠d:=λd hd=>lQ I q1 (hf d hd);have jG:∀d∈[n+1,n],∀a,X.A.in1.handled=some (.ref a)->a≠d:=λd hd=>I.Pj hc (hf d hd).2.2.2.1 (hf d hd).2.2.2.2.2;have hi:jw.toArray.size=i:=by rw[List.size_toArray,<-De.length];exact hl
  subst hi;refine wpAny_pyNext_enum_endD (gd n a (na n (by simp)) (jG n (by simp)) jw.toArray) e0 ⟨st.it,p1.isList,I.hb hc⟩ λh1 kp=>⟨rfl,?_⟩;refine Gf (t':=s.toks) (ch:=[n+1,n]) I (λc o jg e=>?_) hf;simp only[List.mem_cons,List.not_mem_nil,or_false,not_or]at jg;exact kp c o jg.2 e
 self:=λA i s Q E st h=>by obtain⟨old,e0⟩:=st.e;exact wpAny_pyIter_enum e0 h
noncomputable def abc(K:PySem.W.Frag)(ta:TA):TI:=λσ H R=>ta σ H λvs H1=>∃a xs,vs=[.ref a]/\bQ K H1 a xs/\R (ZO K a) H1
theorem MX{X:Cx}{es:List Expr}{k:Nat}{Lq:Pos}{a:Expr}{ta:TA}{p pos:Pos}(hg:Gl X "enumerate")(hm:X.mg "enumerate"=none)(ha:PA X [a] ta)(hs:starEach [a] X.env=[(false,eval a X.env)]:=by rfl):PI X (.Tuple es k Lq) (.Call (.Name "enumerate" p) [a] [] pos) (abc X.K ta):=by
 intro pins s σ H R I h;refine Call_ (jr I hg hm boot_enumerate (PyProof.Rows.callWith_type1 (bG (ha pos pins s σ H _ I h) λus s1⟨vs,H1,I1,r1,q1⟩=>?_) (by rw[hs];rfl) (by rfl)));obtain⟨a1,xs,e,k1,q⟩:=q1;subst e;obtain⟨u1,rfl,R6⟩:=Vals.one r1;cases R6;obtain⟨jw,De,p1,_⟩:=I1.list k1;refine call_enumerate_list p1.isList λh1 z1 s1' sz kp=>?_;refine wpAny_pyIter_enum (s:={s1 with heap:=h1}) z1 ?_;have I2:Inv X pins σ H1 {s1 with heap:=h1}:=I1.kept (t':=s1.toks) kp;refine⟨_,_,_,_,H1,rfl,I2,Jx a1 s1.heap.objs.size,⟨⟨_,z1⟩,s1'⟩,λd hd=>?_,q⟩;have :s1.heap.objs.size<=d:=by simp only[List.mem_cons,List.not_mem_nil,or_false]at hd;rcases hd with z|z<;>rw[z]<;>first|exact Nat.le_add_right _ _|exact Nat.le_refl _
 exact I1.NB this (I1.bJ.fresh this)
end L3
end
section
namespace L3
open PySem PySem.Spec PyProof.Rows L2
theorem jb{CX:nH}{P:Program}{w:World}{K:PySem.W.Frag}{mg:Str->Option Value}{base:Heap}{N:List Str}{qual:Str}{scope:Scope}{f:Addr}{cd:Value}{A:Around}{outer:List Env}{s:Shared}{H:Hp}{E:XK}:(dZ CX P w K mg base N qual scope f cd A outer s H E).Ka.K=K:=rfl
end L3
end
section
namespace L3
open PySem L2
theorem wO{t1 t2:TS}{D:Ends}{σ:L2.St}{H:Hp}(h:let D0:Ends:=D;let v2:TS:=t2;bP t1 v2 D0 σ H):(bP t1 (t2)) D σ H:=h
theorem Dk{t1 t2 t3:TS}{D:Ends}{σ:L2.St}{H:Hp}(h:let D0:Ends:=D;let v3:TS:=t3;let v2:TS:=bP t2 v3;bP t1 v2 D0 σ H):(bP t1 (bP t2 (t3))) D σ H:=h
theorem L5{t1 t2 t3 t4:TS}{D:Ends}{σ:L2.St}{H:Hp}(h:let D0:Ends:=D;let v4:TS:=t4;let v3:TS:=bP t3 v4;let v2:TS:=bP t2 v3;bP t1 v2 D0 σ H):(bP t1 (bP t2 (bP t3 (t4)))) D σ H:=h
theorem OM{t1 t2 t3 t4 t5:TS}{D:Ends}{σ:L2.St}{H:Hp}(h:let D0:Ends:=D;let v5:TS:=t5;let v4:TS:=bP t4 v5;let v3:TS:=bP t3 v4;let v2:TS:=bP t2 v3;bP t1 v2 D0 σ H):(bP t1 (bP t2 (bP t3 (bP t4 (t5))))) D σ H:=h
theorem aay{t1 t2 t3 t4 t5 t6:TS}{D:Ends}{σ:L2.St}{H:Hp}(h:let D0:Ends:=D;let v6:TS:=t6;let v5:TS:=bP t5 v6;let v4:TS:=bP t4 v5;let v3:TS:=bP t3 v4;let v2:TS:=bP t2 v3;bP t1 v2 D0 σ H):(bP t1 (bP t2 (bP t3 (bP t4 (bP t5 (t6)))))) D σ H:=h
theorem ZR{t1 t2 t3 t4 t5 t6 t7 t8 t9 t10:TS}{D:Ends}{σ:L2.St}{H:Hp}(h:let D0:Ends:=D;let v10:TS:=t10;let v9:TS:=bP t9 v10;let v8:TS:=bP t8 v9;let v7:TS:=bP t7 v8;let v6:TS:=bP t6 v7;let v5:TS:=bP t5 v6;let v4:TS:=bP t4 v5;let v3:TS:=bP t3 v4;let v2:TS:=bP t2 v3;bP t1 v2 D0 σ H):(bP t1 (bP t2 (bP t3 (bP t4 (bP t5 (bP t6 (bP t7 (bP t8 (bP t9 (t10)))))))))) D σ H:=h
end L3
namespace KM
theorem d0{t:D}{n:Nat}(h:depth t+0<=n):depth t<=n:=h
theorem q1{x:PySem.Str}{a:D}{k n:Nat}(h:depth a+(k+1)<=n):depth (.tup [.str x,a])+k<=n:=by simp only[depth,az];omega
theorem q2{x:PySem.Str}{a b:D}{k n:Nat}(h1:depth a+(k+1)<=n)(h2:depth b+(k+1)<=n):depth (.tup [.str x,a,b])+k<=n:=by simp only[depth,az];omega
theorem q3{x:PySem.Str}{a b c:D}{k n:Nat}(h1:depth a+(k+1)<=n)(h2:depth b+(k+1)<=n)(h3:depth c+(k+1)<=n):depth (.tup [.str x,a,b,c])+k<=n:=by simp only[depth,az];omega
theorem q4{x:PySem.Str}{a b c d:D}{k n:Nat}(h1:depth a+(k+1)<=n)(h2:depth b+(k+1)<=n)(h3:depth c+(k+1)<=n)(h4:depth d+(k+1)<=n):depth (.tup [.str x,a,b,c,d])+k<=n:=by simp only[depth,az];omega
end KM
namespace L3
open PySem L2
theorem by0{P:List Value->Prop}(h:P []):∀us:List Value,us.length=0->P us:=λus e=>by rw[List.length_eq_zero_iff.mp e];exact h
theorem VD{P:List Value->Prop}{n:Nat}(h:∀a us,us.length=n->P (a::us)):∀us:List Value,us.length=n+1->P us|[],e=>nomatch e|a::us,e=>h a us (Nat.succ.inj e)
theorem gc{P:List Value->Prop}(h:∀a,P [a]):∀us:List Value,us.length=1->P us:=VD λa=>by0 (h a)
theorem NY{P:List Value->Prop}(h:∀a b,P [a,b]):∀us:List Value,us.length=2->P us:=VD λa=>gc (h a)
theorem J_{P:List Value->Prop}(h:∀a b c,P [a,b,c]):∀us:List Value,us.length=3->P us:=VD λa=>NY (h a)
theorem by4{P:List Value->Prop}(h:∀a b c d,P [a,b,c,d]):∀us:List Value,us.length=4->P us:=VD λa=>J_ (h a)
theorem by5{P:List Value->Prop}(h:∀a b c d e,P [a,b,c,d,e]):∀us:List Value,us.length=5->P us:=VD λa=>by4 (h a)
theorem by6{P:List Value->Prop}(h:∀a b c d e f,P [a,b,c,d,e,f]):∀us:List Value,us.length=6->P us:=VD λa=>by5 (h a)
noncomputable def cN(K:PySem.W.Frag)(x:Str)(st:Stmt):Prop:=∃(f:Addr)(od an:Option Addr)(sl:Array (Option Value))(oc kV dc pm cd ct:Value),PySem.W.nsIn K mainGlobals x=some (some (.ref f))/\K.lookup f=some ⟨oc,od, .func (PySem.W.fnOf x x (ak st) (ai st) (ae st) .none kV dc pm an cd ct),sl⟩/\PySem.W.codeIn K cd x=true/\PySem.W.keepIn K (.ref f)=true
theorem dfi{K:PySem.W.Frag}{x:Str}{st:Stmt}{f:Addr}{od an:Option Addr}{sl:Array (Option Value)}{oc kV dc pm cd ct:Value}(a:PySem.W.nsIn K mainGlobals x=some (some (.ref f)))(l:K.lookup f=some ⟨oc,od, .func (PySem.W.fnOf x x (ak st) (ai st) (ae st) .none kV dc pm an cd ct),sl⟩)(c:PySem.W.codeIn K cd x=true)(k:PySem.W.keepIn K (.ref f)=true):cN K x st:=⟨f,od,an,sl,oc,kV,dc,pm,cd,ct,a,l,c,k⟩
theorem cN.df{K:PySem.W.Frag}{h:Heap}{mg:Str->Option Value}{x:Str}{st:Stmt}{ps:List Str}(D:cN K x st)(X:K.In h)(G:h.Ns mainGlobals mg)(b:∀(kV doc pm:Value)(an:Option Addr)(cM ct:Value)(us:List Value),us.length=ps.length->bindArgs (PySem.W.fnOf x x (ak st) (ai st) (ae st) .none kV doc pm an cM ct) ⟨us,[]⟩=pure (ps.zip us)):Df K mg x st ps:=by obtain⟨f,od,an,sl,oc,kV,dc,pm,cd,ct,a,l,c,k⟩:=D;exact⟨f,_,Lk l c k,PySem.W.mg_of X G a,(Lk l c k).binds b⟩
end L3
end
section
namespace K26
open PySem L2 L3 KM
noncomputable def top(i:Nat):Stmt:=PySem.Challenge.pw_keeper_k26_near_the_bounds.main.body.getD i (.Pass ⟨0,0,0,0⟩)
noncomputable abbrev fH:Stmt:=top 23
noncomputable abbrev gb:Stmt:=top 24
noncomputable abbrev iV:Stmt:=top 25
noncomputable abbrev eZ:Stmt:=top 26
noncomputable abbrev cw:Stmt:=top 27
noncomputable abbrev iW:Stmt:=top 28
noncomputable abbrev iQ:Stmt:=top 29
noncomputable abbrev kN:Stmt:=top 31
noncomputable abbrev gT:Stmt:=top 32
noncomputable abbrev dI:Stmt:=top 33
noncomputable abbrev iU:Stmt:=top 34
noncomputable abbrev dE:Stmt:=top 36
noncomputable abbrev iK:Stmt:=top 37
noncomputable abbrev h_:Stmt:=top 38
noncomputable abbrev iT:Stmt:=top 41
noncomputable abbrev eV:Stmt:=top 42
noncomputable abbrev eO:Stmt:=top 43
noncomputable abbrev i_:Stmt:=top 44
noncomputable abbrev dH:Stmt:=top 45
noncomputable abbrev kT:Stmt:=top 47
noncomputable abbrev kx:Stmt:=top 48
noncomputable abbrev gA:Stmt:=top 50
noncomputable abbrev cT:Stmt:=top 51
noncomputable abbrev fk:Stmt:=top 52
noncomputable abbrev gj:Stmt:=top 53
noncomputable abbrev gO:Stmt:=top 54
noncomputable abbrev eC:Stmt:=top 55
noncomputable abbrev fB:Stmt:=top 56
noncomputable abbrev fz:Stmt:=top 57
noncomputable abbrev de:Stmt:=top 58
noncomputable abbrev fD:Stmt:=top 59
noncomputable abbrev gs:Stmt:=top 60
noncomputable abbrev HH:Stmt:=top 61
structure jo where
 none_:Unit:=()
 vv:Addr
 iq:Addr
 Hc:Addr
 fF:Addr
 br:Addr
 bz:Addr
 eK:Addr
 jF:Addr
 cF:Addr
 gk:Addr
 gF:Addr
 eR:Addr
 eN:Addr
 gE:Addr
 gw:Addr
 gN:Addr
 c6:Addr
 c5:Addr
structure Mg(mg:Str->Option Value)(t:jo):Prop where
 yy:mg "ValueError"=none
 US:mg "bool"=none
 Bx:mg "enumerate"=none
 XH:mg "int"=none
 bS:mg "isinstance"=none
 gf:mg "len"=none
 LS:mg "list"=none
 NU:mg "max"=none
 lu:mg "range"=none
 Gd:mg "tuple"=none
 WI:mg "zip"=none
 g_MOST_KNOTS:∃tk,mg "MOST_KNOTS"=some (.int 600 tk)
 g_MOST_DEEP:∃tk,mg "MOST_DEEP"=some (.int 40 tk)
 g_MOST_VARIABLE:∃tk,mg "MOST_VARIABLE"=some (.int 99 tk)
 g_KIDS_DUE:mg "KIDS_DUE"=some (.ref t.vv)
 g_BINDER_OVER:mg "BINDER_OVER"=some (.ref t.iq)
 g_RULES:mg "RULES"=some (.ref t.Hc)
 g_KeeperError:mg "KeeperError"=some (.ref t.fF)
 g_Great:mg "Great"=some (.ref t.br)
 g_NoPlace:mg "NoPlace"=some (.ref t.bz)
 g_NoStep:mg "NoStep"=some (.ref t.eK)
 g_Dry:mg "Dry"=some (.ref t.jF)
 g_NoVariable:mg "NoVariable"=some (.ref t.cF)
 g_NoName:mg "NoName"=some (.ref t.gk)
 g_NotAll:mg "NotAll"=some (.ref t.gF)
 g_NotSome:mg "NotSome"=some (.ref t.eR)
 g_NotSame:mg "NotSame"=some (.ref t.eN)
 g_Unlike:mg "Unlike"=some (.ref t.gE)
 g_NoText:mg "NoText"=some (.ref t.gw)
 g_NoWord:mg "NoWord"=some (.ref t.gN)
 g_TwiceTold:mg "TwiceTold"=some (.ref t.c6)
 g_NotClosed:mg "NotClosed"=some (.ref t.c5)
seal L2.PE L2.PS L2.eM L2.PT L2.PW L2.PA L2.PG L2.kW L2.PI L2.PC L2.PO L2.nj L2.PK L3.lr
variable{P:Program}{w:World}{K:PySem.W.Frag}{mg:Str->Option Value}{base:Heap}{f:Addr}{fd:FuncData}
variable{P:Program}{w:World}{K:PySem.W.Frag}{mg:Str->Option Value}{base:Heap}{f:Addr}{fd:FuncData}
noncomputable def YJ:List (Key×V):=[(.inr "nat", .str ""),(.inr "none", .str ""),(.inr "zero", .str ""),(.inr "all", .str "kk"),(.inr "some", .str "kk"),(.inr "same", .str "ktt"),(.inr "fun", .str "kt"),(.inr "app", .str "tt")]
noncomputable def W2:List (Key×V):=[(.inr "next", .str "t"),(.inr "rec", .str "kttt"),(.inr "like", .str "kt"),(.inr "carry", .str "ktt"),(.inr "never", .str "kt"),(.inr "pair", .str "ktt"),(.inr "first", .str "t")]
noncomputable def YW:List (Key×V):=[(.inr "second", .str "t"),(.inr "var", .str "n"),(.inr "name", .str "w")]
noncomputable def dP(x:Str):V:=match dG YJ (Sum.inr x:Key)with|some v=>v|none=>match dG W2 (Sum.inr x:Key)with|some v=>v|none=>(dG YW (Sum.inr x:Key)).getD .ba
noncomputable def xO(w:Str):Bool:=SK (.str w) [.str "nat", .str "none", .str "all", .str "some", .str "same"]
noncomputable def jc:D->Bool| .int i=>decide (0<=i)|_=>false
mutual noncomputable def bU(nm:D->Bool)(k:Bool):D->Bool
 | .tup (.str w::ps)=>match dP w with| .str s=>(xO w==k)&&gX nm s.cps.toList ps|_=>false
 |_=>false noncomputable def gX(nm:D->Bool):List Nat->List D->Bool|[],[]=>true|c::cs,p::ps=>(if c=107 then bU nm true p else if c=116 then bU nm false p else if c=110 then jc p else nm p)&&gX nm cs ps|_,_=>false end
noncomputable def fj(nm:D->Bool)(c:Nat)(p:D):Bool:=if c=107 then bU nm true p else if c=116 then bU nm false p else if c=110 then jc p else nm p
theorem aT(nm:D->Bool)(c:Nat)(cs:List Nat)(p:D)(ps:List D):gX nm (c::cs) (p::ps)=(fj nm c p&&gX nm cs ps):=by rw[gX];rfl
theorem fO{nm:D->Bool}{k:Bool}{w s:Str}{ps:List D}(h1:dP w= .str s)(h2:xO w=k)(h3:gX nm s.cps.toList ps=true):bU nm k (.tup (.str w::ps))=true:=by rw[bU,h1];simp[h2,h3]
theorem eX:dP "var"= .str "n":=by decide+kernel
theorem e8:dP "name"= .str "w":=by decide+kernel
theorem Lr:xO "var"=false:=by decide+kernel
theorem JW:xO "name"=false:=by decide+kernel
theorem A9:(Str.ofString "n").cps.toList=[110]:=by decide+kernel
theorem E3:(Str.ofString "w").cps.toList=[119]:=by decide+kernel
theorem Fu{nm:D->Bool}{y:Str}(h:nm (.str y)=true):bU nm false (.tup [.str "name", .str y])=true:=by refine fO e8 JW ?_;rw[E3,aT];simp[fj,h,gX]
variable{P:Program}{w:World}{K:PySem.W.Frag}{mg:Str->Option Value}{base:Heap}{f fN fM fS:Addr}{fd fdN fdM fdS:FuncData}
noncomputable def w0(k:Bool):Str:=if k then"nat"else"var"
variable{t:jo}
end K26
end
section
set_option maxHeartbeats 1000000
namespace K26
open PySem L2 L3 KM
seal L2.PE L2.PS L2.eM L2.PT L2.PW L2.PA L2.PG L2.kW L2.PI L2.PC L2.PO L2.nj L2.PK L3.lr
variable{P:Program}{w:World}{K:PySem.W.Frag}{mg:Str->Option Value}{base:Heap}{t:jo}
noncomputable def gm:List (Str×List V):=[("nat",[]),("none",[]),("all",[.str "kind", .str "kind"]),("some",[.str "kind", .str "kind"]),("same",[.str "kind", .str "term", .str "term"]),("var",[]),("fun",[.str "kind", .str "term"]),("app",[.str "term", .str "term"]),("zero",[]),("next",[.str "term"]),("rec",[.str "kind", .str "term", .str "term", .str "term"]),("like",[.str "kind", .str "term"]),("carry",[.str "kind", .str "term", .str "term"]),("never",[.str "kind", .str "term"]),("pair",[.str "kind", .str "term", .str "term"]),("first",[.str "term"]),("second",[.str "term"]),("name",[])]
noncomputable def Zb(c:Nat):V:=if c=107 then .str "kind"else .str "term"
noncomputable def RH(r:Str×List V):Bool:=match dP r.1 with| .str s=>decide (s.cps.size<=4)&&if r.1="var"then decide (s="n")else if r.1="name"then decide (s="w")else s.cps.toList.all (λc=>c==107||c==116)&&decide (r.2=s.cps.toList.map Zb)|_=>false
theorem OC:gm.all RH=true:=by decide+kernel
theorem lookup_mem{α:Type}{x:Str}{v:α}:∀{l:List (Str×α)},l.lookup x=some v->(x,v)∈l
 |[],h=>by simp at h
 |(k,u)::l,h=>by
  rw[List.lookup_cons]at h;cases e:x==k with
   |true=>
    rw[e]at h;obtain rfl:x=k:=by simpa using e
    cases h;exact List.mem_cons_self
   |false=>rw[e]at h;exact List.mem_cons_of_mem _ (lookup_mem h)
theorem lookup_none{α:Type}{x:Str}:∀{l:List (Str×α)},l.lookup x=none->x∉l.map (·.1)
 |[],_=>by simp
 |(k,u)::l,h=>by
  rw[List.lookup_cons]at h;cases e:x==k with
   |true=>rw[e]at h;cases h
   |false=>
    rw[e]at h;have :=lookup_none h;have e:¬x=k:=by simpa using e
    simp only[List.map_cons,List.mem_cons,not_or];exact⟨e,this⟩
inductive Shp(w:Str):Prop where|ba(h1:gm.lookup w=none)(h2:dP w= .ba)|var(h1:gm.lookup w=some [])(h2:w="var")|name(h1:gm.lookup w=some [])(h2:w="name")|aag(s:Str)(h1:gm.lookup w=some (s.cps.toList.map Zb))(h2:dP w= .str s)(h3:w≠"var")(h4:w≠"name")(h5:∀c∈s.cps.toList,c=107\/c=116)(h6:s.cps.size<=4)
theorem O1{tab:List (Key×V)}{w:Str}(h:∀k∈tab.map (·.1),k≠Sum.inr w):dG tab (Sum.inr w:Key)=none:=by cases e:dG tab (Sum.inr w:Key)with|none=>rfl|some v=>exact absurd rfl (h _ (PU e))
noncomputable def Rc(k:Key)(l:List Str):Bool:=match k with| .inr x=>decide (x∈l)| .inl _=>true
theorem shp(w:Str):Shp w:=by
 cases h:gm.lookup w with
  |none=>
   refine .ba h ?_;have nm:=lookup_none h;have sub:∀tab:List (Key×V),(tab.map (·.1)).all (λk=>Rc k (gm.map (·.1)))=true->dG tab (Sum.inr w:Key)=none:=λtab ht=>O1 λk hk z=>by subst z;have :=List.all_eq_true.mp ht _ hk;simp only[Rc,decide_eq_true_eq]at this;exact nm this
   have e1:=sub YJ (by decide+kernel);have e2:=sub W2 (by decide+kernel);have e3:=sub YW (by decide+kernel);unfold dP;rw[e1,e2,e3];rfl
  |some ds=>
   have m:=lookup_mem h;have g:=List.all_eq_true.mp OC _ m;unfold RH at g;by_cases hv:w="var";·subst hv;exact .var (by decide+kernel) rfl
   ·by_cases hn:w="name";·subst hn;exact .name (by decide+kernel) rfl
    ·cases e:dP w with|str s=>rw[e]at g;simp only[hv,hn,if_false,Bool.and_eq_true,List.all_eq_true,Bool.or_eq_true,beq_iff_eq,decide_eq_true_eq]at g;obtain⟨g1,g2,g3⟩:=g;exact .aag s (by rw[h,g3]) e hv hn g2 g1|_=>rw[e]at g;simp at g
end K26
end
section
set_option maxHeartbeats 1000000
namespace K26
open PySem L2 L3 KM
seal L2.PE L2.PS L2.eM L2.PT L2.PW L2.PA L2.PG L2.kW L2.PI L2.PC L2.PO L2.nj L2.PK L3.lr
variable{P:Program}{w:World}{K:PySem.W.Frag}{mg:Str->Option Value}{base:Heap}{t:jo}
noncomputable def cQ(x:Str):Bool:=decide (x="var")||decide (x="name")
noncomputable def aH(x:Str)(ps:List D):List D:=if cQ x=true then[]else ps
noncomputable def eh:Sp:=λvs H Q _=>∃(x:Str)(ps:List D)(v:V),vs=[v]/\Rep H (.tup (.str x::ps)) v/\ps.length<=10/\∀(a:Addr)(us:List V)(H':Hp),H a=none->aA H H'->H' a=some (.lst us)->bu H' (aH x ps) us->Q (.ref a) H'
theorem CD:aK ["thing"] ["thing"] (ae iV):=⟨rfl,rfl,rfl,by decide+kernel,rfl,by decide+kernel,by decide+kernel⟩
theorem II(D:Df K mg "kids_of" iV ["thing"])(M:Mg mg t):bI P w K mg b_ "kids_of" (1) ["thing"] eh:=by
 refine D.ok CD (λvs H Q E h=>?_) (λbase f cM A outer s H vs Q E hr h=>?_);·obtain⟨x,ps,v,rfl,_⟩:=h;rfl
 obtain⟨x,ps,v,rfl,r,hl,q⟩:=h;obtain⟨a,us,rfl,ha,v0,us,rfl,⟨rfl,hx⟩,rp⟩:=r;have hlu:=rp.length;have ea:zK (V.str x::us) 0=some (.str x):=aF (j:=0) rfl;have hT:bN K H a (.str x::us):=bN.of ha;refine⟨_,(ah (bB (L2.PW.pt (BR (aG cj (aW aR (pv 0) aj (λ_ _=>rfl)) ar (aM _)) (yu (aG cj (aW aR (pv 0) aj (λ_ _=>rfl)) ar (aM _))))) (aq (aB (fK af))) aN) (aq (aB (l5 kQ rfl M.LS Hv (aa (ik yB (pv 0) (gI aj) eS) af))))),?_⟩;try dsimp only[jb,c_]
 refine wO ?_;intro _ _;have leaf:cQ x=true->0<=sizeLine/\∀p,H p=none->Q (.ref p) (upd H p (.lst [])):=λc=>⟨Nat.zero_le _,λp hp=>q p [] _ hp (ag hp _) av (by unfold aH;rw[if_pos c];exact rfl)⟩;refine⟨_,rfl,a,_,_,_,rfl,rfl,hT,ea,rfl,_,rfl,?_⟩;refine aZ (λc=>?_) (λc=>?_);·refine AI ?_;have c:V.str x=V.str "var":=of_decide_eq_true c;cases c;exact leaf rfl
 refine⟨_,rfl,a,_,_,_,rfl,rfl,hT,ea,rfl,_,rfl,?_⟩;refine aZ (λc2=>?_) (λc2=>?_);·have c2:V.str x=V.str "name":=of_decide_eq_true c2;cases c2;exact leaf (by decide+kernel)
 have nl:cQ x=false:=by unfold cQ;have h1:x≠"var":=λz=>c (by rw[z];decide+kernel);have h2:x≠"name":=λz=>c2 (by rw[z];decide+kernel);simp[h1,h2]
 have nk:aH x ps=ps:=by unfold aH;rw[nl];rfl
 rw[nk]at q;have ec:gG (V.str x::us) (some 1) none=us:=by have :=lP (V.str x::us) 1;simpa using this
 refine⟨_,rfl,_,rfl,a,_,rfl,hT,λp hp=>?_,λz=>?_⟩;·rw[ec];refine⟨p,us,rfl, .inr (bN.of av),λl hl=>?_⟩;exact q l us _ ((ag hp _).free hl) ((ag hp _).trans (ag hl _)) av (rp.mono ((ag hp _).trans (ag hl _)))
 ·rw[ec]at z;exact absurd (congrArg List.length z) (by simp)
theorem kI{nm:D->Bool}:∀{cs:List Nat}{ps:List D},gX nm cs ps=true->cs.length=ps.length|[],[],_=>rfl|[],_::_,h=>by simp[gX]at h|_::_,[],h=>by simp[gX]at h|c::cs,p::ps,h=>by rw[aT,Bool.and_eq_true]at h;rw[List.length_cons,List.length_cons,kI h.2]
noncomputable def Vt(c:Nat):Bool:=!(Builtin.Str.occurrences (Str.ofString "kt") ⟨#[c]⟩ 0 (Str.ofString "kt").length 1).isEmpty
theorem kt1:Vt 107=true:=by decide+kernel
theorem kt2:Vt 116=true:=by decide+kernel
theorem kt3:Vt 110=false:=by decide+kernel
theorem kt4:Vt 119=false:=by decide+kernel
theorem cx{nm:D->Bool}{k:Bool}{x:Str}{ps:List D}(h:bU nm k (.tup (.str x::ps))=true):∃s,dP x= .str s/\xO x=k/\gX nm s.cps.toList ps=true/\s.cps.size<=4/\s.cps.toList.length=ps.length/\(∀c∈s.cps.toList,Vt c=!cQ x)/\(cQ x=false->∀c∈s.cps.toList,c=107\/c=116)/\∃r,gm.lookup x=some r/\r.length=(aH x ps).length:=by
 have key:∀s,dP x= .str s->xO x=k/\gX nm s.cps.toList ps=true:=λs e=>by rw[bU,e,Bool.and_eq_true]at h;exact⟨by simpa using h.1,h.2⟩
 cases shp x with
  |ba h1 h2=>rw[bU,h2]at h;simp at h
  |var h1 h2=>subst h2;obtain⟨k1,k2⟩:=key _ eX;refine⟨_,eX,k1,k2,by decide,kI k2,λc hc=>?_,λz=>absurd z (by decide+kernel),_,h1,by unfold aH;rw[if_pos (by decide+kernel)];rfl⟩;rw[A9]at hc;rw[List.mem_singleton.mp hc,kt3];decide+kernel
  |name h1 h2=>subst h2;obtain⟨k1,k2⟩:=key _ e8;refine⟨_,e8,k1,k2,by decide,kI k2,λc hc=>?_,λz=>absurd z (by decide+kernel),_,h1,by unfold aH;rw[if_pos (by decide+kernel)];rfl⟩;rw[E3]at hc;rw[List.mem_singleton.mp hc,kt4];decide+kernel
  |aag s h1 h2 h3 h4 h5 h6=>
   obtain⟨k1,k2⟩:=key s h2;have nl:cQ x=false:=by unfold cQ;simp[h3,h4]
   refine⟨s,h2,k1,k2,h6,kI k2,λc hc=>?_,λ_=>h5,_,h1,?_⟩
   ·rw[nl];rcases h5 c hc with z|z<;>rw[z];·exact kt1
    ·exact kt2
   ·unfold aH;rw[nl,List.length_map,kI k2];rfl
end K26
end
section
set_option maxHeartbeats 1000000
namespace K26
open PySem L2 L3 KM PyProof.Rows
seal L2.PE L2.PS L2.eM L2.PT L2.PW L2.PA L2.PG L2.kW L2.PI L2.PC L2.PO L2.nj L2.PK L3.lr
variable{P:Program}{w:World}{K:PySem.W.Frag}{mg:Str->Option Value}{base:Heap}{t:jo}
noncomputable def BO:List (Str×V):=[("all", .int 1),("some", .int 1),("fun", .int 1),("rec", .int 0),("carry", .int 0)]
noncomputable def Cp(x:Str):V:=(KTD.datumAt x BO).getD .ba
noncomputable def j9(x:Str)(i:Nat):V:=if decide (V.int i=Cp x)=true then .int 1 else .int 0
noncomputable def Dm(x:Str)(n:Nat):List V:=(List.range n).map (j9 x)
noncomputable def yA:Sp:=λvs H Q _=>∃(x:Str)(ps:List D)(v:V)(k:Bool),vs=[v]/\Rep H (.tup (.str x::ps)) v/\bU aP k (.tup (.str x::ps))=true/\∀(a:Addr)(H':Hp),aA H H'->H' a=some (.lst (Dm x (aH x ps).length))->Q (.ref a) H'
theorem JS(x:Str)(i:Int):TR (.int i) (Cp x)=true:=by
 unfold Cp;cases e:KTD.datumAt x BO with
  |none=>rfl
  |some v=>
   have :v= .int 1\/v= .int 0:=by
    simp only[KTD.datumAt,BO]at e;repeat' split at e
    all_goals first|(cases e;exact .inl rfl)|(cases e;exact .inr rfl)|cases e
   rcases this with z|z<;>rw[z]<;>rfl
theorem mG:aK ["thing","over"] ["thing"] (ae eZ):=⟨rfl,rfl,rfl,by decide+kernel,rfl,by decide+kernel,by decide+kernel⟩
theorem C_(D:Df K mg "binds_of" eZ ["thing"])(M:Mg mg t){as:List Addr}(T:KD K t.vv gm as)(B:jE K t.iq BO):bI P w K mg b_ "binds_of" (1) ["thing"] yA:=by
 refine D.ok mG (λvs H Q E h=>?_) (λbase f cM A outer s H vs Q E hr h=>?_);·obtain⟨x,ps,v,k,rfl,_⟩:=h;rfl
 obtain⟨x,ps,v,k,rfl,r,wf,q⟩:=h;obtain⟨a,us,rfl,ha,v0,us,rfl,⟨rfl,hx⟩,rp⟩:=r;have hlu:=rp.length;have ea:zK (V.str x::us) 0=some (.str x):=aF (j:=0) rfl;have hT:bN K H a (.str x::us):=bN.of ha;obtain⟨sh,hsh,hk,hwf,h4,hlen,hkt,_,uX,hrw,Z9⟩:=cx wf;obtain⟨b,hb1,WZ⟩:=T.some hrw;have hn:(aH x ps).length<=4:=by
  unfold aH;split;·exact Nat.zero_le _
  ·rw[<-hlen];simpa using h4
 refine⟨_,(ah (aD (i:=1) mG.nd rfl (by first|exact Or.inl rfl|exact Or.inr rfl) (NH (bW M.g_BINDER_OVER rfl) (aW aR (pv 0) aj (λ_ _=>rfl)) ⟨rfl,rfl,rfl,rfl⟩)) (aq (aB (uD (N':=["number","over"]) (own:=1) (fr:=[1]) rfl (vc (N:=["thing","over"]) (sc:=ae eZ) rfl rfl rfl (by decide+kernel)) (fZ rfl M.lu (aa (bg bo rfl M.gf eA (aa (SA (bW M.g_KIDS_DUE rfl) (aW aR (pv 0) aj (λ_ _=>rfl)) (λ_ _=>rfl)) af)) af)) (jJ (by decide)) (λ_ _ _=>(bA (i:=0) (show List.Nodup (["number","over"]:List Str)by decide+kernel) rfl (Or.inl rfl))) (λ_ _ _=>tG) (λ_ _ _=>(ic (aG cj (pv 0) (pv 1) (aM _)) aj aj)))))),?_⟩;try dsimp only[jb,c_]
 refine wO ?_;intro _ _;refine⟨_,_,rfl,B,_,rfl,a,_,_,_,rfl,rfl,hT,ea,x,rfl,?_⟩;refine⟨_,rfl,a,_,_,_,rfl,rfl,hT,ea,_,_,x,_,rfl,rfl,T.tab,hb1,b,_,rfl, .inr (WZ H),_,rfl,(by show-(2^62)<=((uX.length:Nat):Int);omega),(by show((uX.length:Nat):Int)<2^62;omega),λp hp=>xT uX.length (j9 x) hp (by rw[Z9];exact Nat.le_trans hn (by decide)) (λi H2 hi s2=>⟨hi,?_⟩) λH2 s2 h2=>⟨Nat.le_refl _,?_⟩⟩
 ·rintro x' H3⟨rfl,rfl⟩R hR;have e0:(0:Int)+(i:Int)=((i:Nat):Int):=by omega
  rw[e0];refine⟨_,rfl,_,rfl,JS x i,_,rfl,?_⟩;refine aZ (λc=>?_) (λc=>?_)
  ·have e:j9 x i= .int 1:=by unfold j9;exact if_pos c
   have :=hR H3 (aA.refl _);rw[e]at this;exact this
  ·have e:j9 x i= .int 0:=by unfold j9;exact if_neg c
   have :=hR H3 (aA.refl _);rw[e]at this;exact this
 ·rw[Z9]at h2;exact q p H2 s2 h2
theorem A3(x:Str):∀ws:List Str,SK (.str x) (ws.map V.str)=decide (x∈ws)
 |[]=>rfl
 |y::ws=>by
  have ih:=A3 x ws;unfold SK at ih⊢;rw[List.map_cons,List.any_cons,ih];show(y==x||decide (x∈ws))=decide (x∈y::ws);by_cases e:y=x;·subst e;simp
  ·have e':¬x=y:=λz=>e z.symm;simp[e,e']
end K26
end
section
set_option maxHeartbeats 1000000
namespace K26
open PySem L2 L3 KM PyProof.Rows
seal L2.PE L2.PS L2.eM L2.PT L2.PW L2.PA L2.PG L2.kW L2.PI L2.PC L2.PO L2.nj L2.PK L3.lr
variable{P:Program}{w:World}{K:PySem.W.Frag}{mg:Str->Option Value}{base:Heap}{t:jo}
theorem xm:∀{ps:List D}{i:Nat}{p:D},ps[i]?=some p->depth p<=az ps|[],_,_,e=>by simp at e|p::ps,0,_,e=>by simp at e;subst e;simp only[az];omega|_::ps,i+1,p,e=>by have :=xm (ps:=ps) (i:=i) (by simpa using e);simp only[az];omega
end K26
end
section
namespace L3
open PySem PySem.Spec PyProof.Rows L2 KM
theorem NQ{prog:Program}{w:World}{A:Around}{E:Value->Shared->Prop}{s:Shared}{t b:Addr}{ws:List Value}{Q:Value->Shared->Prop}(ht:IsTup s.heap t (([]:List Value)).toArray)(hb:IsTup s.heap b ws.toArray)(h1:Q (.ref b) s):wpAny (model prog w) A (binaryOp .Add (.ref t) (.ref b)) Q E s:=by obtain⟨⟨cls,dd,data,sl⟩,ho,hc,n,hd⟩:=id ht;obtain⟨⟨acs,dd2,data2,sl2⟩,SY,UY,n2,hd2⟩:=id hb;simp only at hc hd UY hd2;subst hc hd UY hd2;exact concat_meets ⟨_,ho,rfl⟩ ⟨_,SY,rfl⟩ noFill_tuple_add seq_tuple_add PySem.F.slot_tuple_add PySem.F.entry_tuple_add (PySem.F.args_tuple_add_2 _ _) (tuple_addW0 t b _ ws.toArray n n2 dd dd2 sl sl2 (by simp)) ⟨ho,SY,h1⟩
noncomputable def Yl(K:PySem.W.Frag):R2:=λx y H Q=>∃a b xs ys,x= .ref a/\y= .ref b/\bN K H a xs/\bN K H b ys/\xs.length+ys.length<=sizeLine/\(xs=[]->Q (.ref b) H)/\(xs≠[]->ys=[]->Q (.ref a) H)/\(xs≠[]->ys≠[]->∀p,H p=none->Q (.ref p) (upd H p (.tup (xs++ys))))
theorem OV{X:Cx}:jB X (binaryOp .Add) (Yl X.K):=by
 intro pins s σ H x y v u Q I rx ry h;obtain⟨a,b,xs,ys,rfl,rfl,ha,hb,hz,q0,q1,q2⟩:=h;by_cases hx:xs=[];·cases rx;cases ry;subst hx;obtain⟨aI,r1,p1,_⟩:=I.tuple ha;obtain⟨vK,r2,p2,_⟩:=I.tuple hb;have e:aI=[]:=r1.uH.mpr rfl;subst e;exact NQ p1 p2 ⟨.ref b,H,I,rfl,q0 rfl⟩
 ·exact OE pins s σ H _ _ v u Q I rx ry ⟨a,b,xs,ys,rfl,rfl,ha,hb,hx,hz,q1 hx,q2 hx⟩
theorem Pt.imp{X:Cx}{r r':V->Option Int->Option Int->Hp->VK->Prop}(h:Pt X r)(i:∀x lo hi H Q,r' x lo hi H Q->r x lo hi H Q):Pt X r':=by intro a1 a2 a3 a4 a5 a6 a7 a8 a9 b1 b2 b3 b4;intros;apply h<;>first|assumption|(apply i;assumption)
noncomputable def aa9:V->Option Int->Option Int->Hp->VK->Prop:=λx lo hi H Q=>∃a xs,x= .ref a/\H a=some (.tup xs)/\∀b H',aA H H'->H' b=some (.tup (gG xs lo hi))->Q (.ref b) H'
theorem EV{X:Cx}:Pt X aa9:=Pt.imp yB λx lo hi H Q⟨a,xs,e,h,q⟩=>⟨a,xs,e,bN.of h,λp hp=>q p _ (ag hp _) av,λz=>q a H (aA.refl H) (by rw[z];exact h)⟩
noncomputable def Zi:R2:=λx y H Q=>∃a b xs ys,x= .ref a/\y= .ref b/\H a=some (.tup xs)/\H b=some (.tup ys)/\xs.length+ys.length<=sizeLine/\∀p H',aA H H'->H' p=some (.tup (xs++ys))->Q (.ref p) H'
theorem pE{X:Cx}:jB X (binaryOp .Add) Zi:=by
 intro pins s σ H x y v u Q I rx ry h;obtain⟨a,b,xs,ys,rfl,rfl,ha,hb,hz,q⟩:=h;refine OV pins s σ H _ _ v u Q I rx ry ⟨a,b,xs,ys,rfl,rfl,bN.of ha,bN.of hb,hz,λe=>?_,λ_ e=>?_,λ_ _ p hp=>q p _ (ag hp _) av⟩;·subst e;exact q b H (aA.refl H) hb
 ·subst e;exact q a H (aA.refl H) (by rw[List.append_nil];exact ha)
mutual theorem Rep.w_{H:Hp}{p:Addr}{xs:List V}{o:HO}(h:H p=some (.lst xs)):∀{d:D}{v:V},Rep H d v->Rep (upd H p o) d v| .ba,_,r=>r| .bl _,_,r=>r| .int _,_,r=>r| .str _,_,r=>r| .tup _,_,⟨a,vs,e,q,r⟩=>⟨a,vs,e,by rw[aX (Qr q h (by simp))];exact q,bu.w_ h r⟩theorem bu.w_{H:Hp}{p:Addr}{xs:List V}{o:HO}(h:H p=some (.lst xs)):∀{ds:List D}{vs:List V},bu H ds vs->bu (upd H p o) ds vs|[],_,r=>r|_::_,_,⟨v,r,e,q,t⟩=>⟨v,r,e,Rep.w_ h q,bu.w_ h t⟩end
theorem JL{J:It}{p:Addr}{H1:Hp}{g:TG}{te:TE}{b:L2.St}{C:Hp->Prop}(n:Nat)(f:Nat->D)(hp:H1 p=none)(hn:n<=sizeLine)(Kf:∀i H2,i<n->aA H1 H2->J.go i H2/\∀x H3,J.Cf i H2 x H3->∀(R:V->Hp->Prop),(∀v H6,aA H2 H6->Rep H6 (f i) v->R v H6)->g x b H3 λje H4=>te je H4 R)(hd:∀acc H2,aA H1 H2->H2 p=some (.lst acc)->bu H2 ((List.range n).map f) acc->J.stop n H2/\C H2):∃W:Nat->Nat->List V->Hp->Prop,(∃m,W 0 m [] (upd H1 p (.lst [])))/\∀i m acc H2,W i m acc H2->(J.stop i H2/\C H2)\/(J.go i H2/\∀x H3,J.Cf i H2 x H3->g x b H3 λje H4=>CW je H4 λok H5=>if ok=true then te je H5 λv H6=>H6 p=some (.lst acc)/\acc.length<sizeLine/\∃m',m'<m/\W (i+1) m' (acc++[v]) (upd H6 p (.lst (acc++[v])))else∃m',m'<m/\W (i+1) m' acc H5):=by
 refine ug (Q:=λ_ H=>C H) n (λi acc H2=>bu H2 ((List.range i).map f) acc/\H2 p=some (.lst acc)/\aA H1 H2) ⟨rfl,av,ag hp _⟩ ?_ ?_;·rintro i acc H2 hi⟨rr,h2,s2⟩;obtain⟨g1,g2⟩:=Kf i H2 hi s2;refine⟨g1,λx H3 y=>?_⟩;simp only[CW,if_true];have hl:=rr.length;rw[List.length_map,List.length_range]at hl;refine g2 x H3 y _ λv H6 s6 rv=>⟨s6 _ _ h2,by omega,nx hi ⟨?_,av,iy (s2.trans s6) hp⟩⟩;rw[List.range_succ,List.map_append];exact((rr.mono s6).w_ (s6 _ _ h2)).append (bu.one (rv.w_ (s6 _ _ h2)))
 ·rintro acc H2⟨rr,h2,s2⟩;exact hd acc H2 s2 h2 rr
end L3
namespace L3
open PySem PySem.Spec PyProof.Rows L2
theorem _root_.L2.cI.mark{j:Nat}{A:Around}{h:Option Value}(r:cI j A)(hj:j<130:=by decide):cI j (A.mark h):=⟨r.dp,r.un,λz=>absurd hj (Nat.not_lt.mpr z)⟩
end L3
end
section
namespace L3
open PySem PySem.Spec PyProof.Rows L2 KM
end L3
end
section
set_option maxHeartbeats 1000000
namespace K26
open PySem L2 L3 KM PyProof.Rows
seal L2.PE L2.PS L2.eM L2.PT L2.PW L2.PA L2.PG L2.kW L2.PI L2.PC L2.PO L2.nj L2.PK L3.lr
variable{P:Program}{w:World}{K:PySem.W.Frag}{mg:Str->Option Value}{base:Heap}{t:jo}
mutual noncomputable def plc:D->List (List Nat)| .tup (.str x::ps)=>[]::(if cQ x=true then[]else Xf 0 ps)|_=>[]noncomputable def Xf:Nat->List D->List (List Nat)|_,[]=>[]|i,d::ds=>(plc d).map (i::·)++Xf (i+1) ds end
theorem take_snoc{l:List D}{i:Nat}{d:D}(h:l[i]?=some d):l.take (i+1)=l.take i++[d]:=by rw[List.take_add_one,h];rfl
noncomputable def V3(pl:List Nat):D:= .tup (pl.map λi=> .int (i:Nat))
theorem sf{nm:D->Bool}{k:Bool}:∀{d:D},bU nm k d=true->∃x ps,d= .tup (.str x::ps)| .tup (.str x::ps),_=>⟨x,ps,rfl⟩| .tup [],h=>by simp[bU]at h| .tup (.ba::_),h=>by simp[bU]at h| .tup (.bl _::_),h=>by simp[bU]at h| .tup (.int _::_),h=>by simp[bU]at h| .tup (.tup _::_),h=>by simp[bU]at h| .ba,h=>by simp[bU]at h| .bl _,h=>by simp[bU]at h| .int _,h=>by simp[bU]at h| .str _,h=>by simp[bU]at h
theorem GV{nm:D->Bool}:∀{cs:List Nat}{ps:List D}{i:Nat}{p:D},gX nm cs ps=true->(∀c∈cs,c=107\/c=116)->ps[i]?=some p->∃k,bU nm k p=true
 |[],[],_,_,_,_,e=>by simp at e
 |[],_::_,_,_,h,_,_=>by simp[gX]at h
 |_::_,[],_,_,h,_,_=>by simp[gX]at h
 |c::cs,q::ps,0,p,h,hc,e=>by
  simp at e;subst e;rw[aT,Bool.and_eq_true]at h;have h1:=h.1;unfold fj at h1;rcases hc c List.mem_cons_self with z|z;·rw[z,if_pos rfl]at h1;exact⟨true,h1⟩
  ·rw[z,if_neg (by decide),if_pos rfl]at h1;exact⟨false,h1⟩
 |c::cs,q::ps,i+1,p,h,hc,e=>by rw[aT,Bool.and_eq_true]at h;exact GV (i:=i) h.2 (λc jg=>hc c (List.mem_cons_of_mem _ jg)) (by simpa using e)
theorem Dl{k:Bool}{x:Str}{ps:List D}{i:Nat}{p:D}(h:bU aP k (.tup (.str x::ps))=true)(e:(aH x ps)[i]?=some p):(∃k,bU aP k p=true)/\depth p<depth (.tup (.str x::ps)):=by
 obtain⟨s,h1,h2,h3,h4,h5,h6,h7,_⟩:=cx h;unfold aH at e;split at e;·simp at e
 ·rename_i nl;refine⟨GV h3 (h7 (by simpa using nl)) e,?_⟩;have :=xm e;simp only[depth,az];omega
theorem Io{k:Bool}{x:Str}{ps:List D}(h:bU aP k (.tup (.str x::ps))=true):(aH x ps).length<=4:=by
 obtain⟨s,h1,h2,h3,h4,h5,h6,h7,_⟩:=cx h;unfold aH;split;·exact Nat.zero_le _
 ·rw[<-h5];simpa using h4
structure Rt(d:D)(n:Nat):Prop where
 wf:∃k,bU aP k d=true
 dp:depth d<n
 ct:(plc d).length<=2000000
 n60:n<=60
theorem lG{nm:D->Bool}{d0 d1:D}(h0:bU nm false d0=true)(h1:bU nm false d1=true):bU nm false (.tup [.str "app",d0,d1])=true:=by refine fO (w:="app") (s:="tt") (by decide+kernel) (by decide+kernel) ?_;rw[show(Str.ofString "tt").cps.toList=[116,116]by decide+kernel,aT,aT];simp[fj,gX,h0,h1]
theorem Ds{nm:D->Bool}{d0 d1:D}(h0:bU nm true d0=true)(h1:bU nm false d1=true):bU nm false (.tup [.str "fun",d0,d1])=true:=by refine fO (w:="fun") (s:="kt") (by decide+kernel) (by decide+kernel) ?_;rw[show(Str.ofString "kt").cps.toList=[107,116]by decide+kernel,aT,aT];simp[fj,gX,h0,h1]
theorem M8{nm:D->Bool}{d0 d1 d2 d3:D}(h0:bU nm true d0=true)(h1:bU nm false d1=true)(h2:bU nm false d2=true)(h3:bU nm false d3=true):bU nm false (.tup [.str "rec",d0,d1,d2,d3])=true:=by refine fO (w:="rec") (s:="kttt") (by decide+kernel) (by decide+kernel) ?_;rw[show(Str.ofString "kttt").cps.toList=[107,116,116,116]by decide+kernel,aT,aT,aT,aT];simp[fj,gX,h0,h1,h2,h3]
theorem NV{nm:D->Bool}{d0:D}(h0:bU nm false d0=true):bU nm false (.tup [.str "first",d0])=true:=by refine fO (w:="first") (s:="t") (by decide+kernel) (by decide+kernel) ?_;rw[show(Str.ofString "t").cps.toList=[116]by decide+kernel,aT];simp[fj,gX,h0]
theorem lM{nm:D->Bool}:bU nm true (.tup [.str "nat"])=true:=by refine fO (w:="nat") (s:="") (by decide+kernel) (by decide+kernel) ?_;rw[show(Str.ofString "").cps.toList=[]by decide+kernel];simp[fj,gX]
theorem eQ{nm:D->Bool}:bU nm false (.tup [.str "zero"])=true:=by refine fO (w:="zero") (s:="") (by decide+kernel) (by decide+kernel) ?_;rw[show(Str.ofString "").cps.toList=[]by decide+kernel];simp[fj,gX]
theorem kH{nm:D->Bool}{d0:D}(h0:bU nm false d0=true):bU nm false (.tup [.str "next",d0])=true:=by refine fO (w:="next") (s:="t") (by decide+kernel) (by decide+kernel) ?_;rw[show(Str.ofString "t").cps.toList=[116]by decide+kernel,aT];simp[fj,gX,h0]
theorem aE{H:Hp}{p:Addr}{ds:List D}{vs:List V}(hp:H p=none)(r:bu H ds vs):Rep (upd H p (.tup vs)) (.tup ds) (.ref p):=⟨p,vs,rfl,av,r.mono (ag hp _)⟩
theorem rs{H:Hp}{d:D}{v:V}{ds:List D}{vs:List V}(r:Rep H d v)(t:bu H ds vs):bu H (d::ds) (v::vs):=⟨v,vs,rfl,r,t⟩
theorem r0{H:Hp}:bu H [] []:=rfl
theorem dU{H:Hp}{x:Str}(h:x.length<=1000:=by decide):Rep H (.str x) (.str x):=⟨rfl,h⟩
theorem ri{H:Hp}{i:Int}:Rep H (.int i) (.int i):=rfl
structure Th(d:D)(dp kn:Nat):Prop where
 wf:bU aP false d=true
 dp:depth d<=dp
 kn:cf d<=kn
noncomputable def Wf(d:D):Prop:=∃k,bU aP k d=true
theorem mD{d:D}(h:Wf d):∃x ps k,d= .tup (.str x::ps)/\bU aP k d=true/\ps.length<=10:=by obtain⟨k,h⟩:=h;obtain⟨x,ps,rfl⟩:=sf h;obtain⟨sh,_,_,_,h4,h5,_⟩:=cx h;refine⟨x,ps,k,rfl,h,?_⟩;rw[<-h5];exact Nat.le_trans (by simpa using h4) (by decide)
end K26
end
section
set_option maxHeartbeats 1000000
namespace K26
open PySem L2 L3 KM
seal L2.PE L2.PS L2.eM L2.PT L2.PW L2.PA L2.PG L2.kW L2.PI L2.PC L2.PO L2.nj L2.PK L3.lr
variable{P:Program}{w:World}{K:PySem.W.Frag}{mg:Str->Option Value}{base:Heap}{t:jo}
theorem sizeLine_eq:sizeLine=16777216:=by decide
noncomputable def okH(d:D):Prop:=d= .ba\/d= .tup []\/∃x,d= .str x
mutual noncomputable def Km:D->Prop| .tup []=>True| .tup (h::ps)=>okH h/\okL ps/\ps.length<=20|_=>True noncomputable def okL:List D->Prop|[]=>True|p::ps=>Km p/\okL ps end
mutual theorem Ly:∀{k:Bool}{d:D},bU aP k d=true->Km d
 |k, .tup (.str x::ps),h=>by
  obtain⟨s,e1,e2,e3,e4,e5,_⟩:=cx h;refine⟨.inr (.inr ⟨x,rfl⟩),Mk e3,?_⟩;have :s.cps.toList.length=s.cps.size:=by simp
  omega
 |k, .tup [],h=>by simp[bU]at h
 |k, .tup (.ba::_),h=>by simp[bU]at h
 |k, .tup (.bl _::_),h=>by simp[bU]at h
 |k, .tup (.int _::_),h=>by simp[bU]at h
 |k, .tup (.tup _::_),h=>by simp[bU]at h
 |k, .ba,h=>by simp[bU]at h
 |k, .bl _,h=>by simp[bU]at h
 |k, .int _,h=>by simp[bU]at h
 |k, .str _,h=>by simp[bU]at h theorem Mk:∀{cs:List Nat}{ps:List D},gX aP cs ps=true->okL ps
 |[],[],_=>trivial
 |[],_::_,h=>by simp[gX]at h
 |_::_,[],h=>by simp[gX]at h
 |c::cs,p::ps,h=>by
  rw[aT,Bool.and_eq_true]at h;refine⟨?_,Mk h.2⟩;have h:=h.1;unfold fj at h;by_cases c1:c=107;·rw[if_pos c1]at h;exact Ly h
  ·rw[if_neg c1]at h;by_cases c2:c=116;·rw[if_pos c2]at h;exact Ly h
   ·rw[if_neg c2]at h;cases p<;>first|trivial|(simp[jc,aP]at h;done)end
theorem M9:∀{ds:List D},Km (.tup ds)->ds.length<=21|[],_=>by simp|_::ps,h=>by have :=h.2.2;simp;omega
theorem F3:∀{ps:List D}{p:D},okL ps->p∈ps->Km p
 |[],_,_,e=>by simp at e
 |q::ps,p,h,e=>by
  rcases List.mem_cons.mp e with rfl|e;·exact h.1
  ·exact F3 h.2 e
theorem Z2:∀{d:D},Km d->∀x∈tk d,Km x
 | .tup [],_,x,hx=>by simp[tk]at hx
 | .tup (h::ps),ok,x,hx=>by
  have hm:x∈h::ps:=(List.mem_filter.mp hx).1;rcases List.mem_cons.mp hm with rfl|hm;·rcases ok.1 with rfl|rfl|⟨y,rfl⟩<;>simp[Km]
  ·exact F3 ok.2.1 hm
 | .ba,_,x,hx=>by simp[tk]at hx
 | .bl _,_,x,hx=>by simp[tk]at hx
 | .int _,_,x,hx=>by simp[tk]at hx
 | .str _,_,x,hx=>by simp[tk]at hx
theorem KQ:∀(n:Nat)(l:List D),(∀x∈l,Km x)->∀x∈lv n l,Km x|0,_,h=>h|n+1,l,h=>KQ n _ λx hx=>by obtain⟨d,hd,hx⟩:=List.mem_flatMap.mp hx;exact Z2 (h d hd) x hx
noncomputable def cE(d:D):Bool:=!(decide (cf d<=600)&&decide (depth d<=40))
noncomputable def Ku:Sp:=λvs H Q _=>∃ds v,vs=[v]/\Rep H (.tup ds) v/\Km (.tup ds)/\0<=cf (.tup ds)/\∀H',aA H H'->Q (.bl (cE (.tup ds))) H'
noncomputable def iJ(ds:List D)(vs:List V)(j:Nat):Option V:=if isTup ((ds[j]?).getD .ba)then vs[j]? else none
theorem xJ{H:Hp}:∀{ds:List D}{vs:List V},bu H ds vs->bu H (ds.filter isTup) ((List.range vs.length).filterMap (iJ ds vs))
 |[],_,r=>by have r:_=[]:=r;subst r;exact rfl
 |d::ds,_,⟨v,vr,e,q,t⟩=>by
  subst e;have ih:=xJ t;rw[List.length_cons,List.range_succ_eq_map,List.filterMap_cons,List.filterMap_map];have e:(iJ (d::ds) (v::vr)∘Nat.succ)=iJ ds vr:=by funext j;simp[iJ]
  rw[e];by_cases hd:isTup d=true
  ·rw[List.filter_cons_of_pos hd];have e0:iJ (d::ds) (v::vr) 0=some v:=by simp[iJ,hd]
   simp only[e0];exact⟨v,_,rfl,q,ih⟩
  ·rw[List.filter_cons_of_neg hd];have e0:iJ (d::ds) (v::vr) 0=none:=by simp[iJ,hd]
   simp only[e0];exact ih
theorem jS(ds:List D):∀x∈[D.tup ds],isTup x=true:=λx hx=>by rw[List.mem_singleton.mp hx];rfl
theorem lR(ds:List D):bF [D.tup ds]=cf (.tup ds):=by simp[bF]
theorem Je(ds:List D):az [D.tup ds]=depth (.tup ds):=by simp[az]
theorem UP(i:Nat)(ds:List D):(lv i [D.tup ds]).length<=cf (.tup ds):=by have h:=vL (i+1) [D.tup ds] (jS ds);rw[lR]at h;simp only[fb]at h;omega
theorem wH(l:List D)(j:Nat):((l.take j).flatMap tk).length<=(l.flatMap tk).length:=by
 have e:l.flatMap tk=(l.take j).flatMap tk++(l.drop j).flatMap tk:=by rw[<-List.flatMap_append,List.take_append_drop]
 rw[e,List.length_append];omega
theorem BL{L:Nat}:∀(l:List D),(∀d∈l,(tk d).length<=L)->(l.flatMap tk).length<=l.length*L|[],_=>by simp|d::l,h=>by rw[List.flatMap_cons,List.length_append,List.length_cons,Nat.add_mul,Nat.one_mul];have :=BL l λx hx=>h x (List.mem_cons_of_mem _ hx);have :=h d List.mem_cons_self;omega
theorem Ur{d:D}(h:Km d):(tk d).length<=21:=by cases d with|tup es=>exact Nat.le_trans (List.length_filter_le _ _) (M9 h)|_=>simp[tk]
theorem NA{ds:List D}{i:Nat}(h:600<fb i [D.tup ds]):cE (.tup ds)=true:=by have :=vL i [D.tup ds] (jS ds);rw[lR]at this;unfold cE;rw[decide_eq_false (by omega)];rfl
theorem Lv{ds:List D}(h:fb 40 [D.tup ds]<=600):cE (.tup ds)=decide (0<(lv 40 [D.tup ds]).length):=by
 have e:=IP [D.tup ds] (jS ds);rw[lR,Je]at e;unfold cE;by_cases hz:lv 40 [D.tup ds]=[];·obtain⟨a,b⟩:=e.mp ⟨h,hz⟩;rw[decide_eq_true a,decide_eq_true b,hz];rfl
 ·have :¬(cf (.tup ds)<=600/\depth (.tup ds)<=40):=λz=>hz (e.mpr z).2;have hl:0<(lv 40 [D.tup ds]).length:=List.length_pos_iff.mpr hz;rw[decide_eq_true hl];by_cases a:cf (.tup ds)<=600;·rw[decide_eq_false λb=>this ⟨a,b⟩,Bool.and_false];rfl
  ·rw[decide_eq_false a];rfl
theorem cX:aK ["value","level","knots","depth","below","knot"] ["value"] (ae gb):=⟨rfl,rfl,rfl,by decide+kernel,rfl,by decide+kernel,by decide+kernel⟩
theorem Jc(D:Df K mg "is_vast" gb ["value"])(M:Mg mg t):bI P w K mg b_ "is_vast" (1) ["value"] Ku:=by
 refine D.ok cX (λvs H Q E h=>?_) (λbase f cM A outer s H vs Q E hr h=>?_);·obtain⟨d,v,rfl,_⟩:=h;rfl
 obtain⟨ds,v,rfl,r,ok,hk,q⟩:=h;refine⟨_,(ah (aD (i:=1) cX.nd rfl (by first|exact Or.inl rfl|exact Or.inr rfl) (fK (aa (pv 0) af))) (ah (aD (i:=2) cX.nd rfl (by first|exact Or.inl rfl|exact Or.inr rfl) aj) (ah (fJ PassesOwn.never rfl (fZ rfl M.lu (aa (zZ M.g_MOST_DEEP rfl) af)) (bA (i:=3) cX.nd rfl (by first|exact Or.inl rfl|exact Or.inr rfl)) (ah (TQ (i:=2) cX.nd rfl (by first|exact Or.inl rfl|exact Or.inr rfl) (bg bo rfl M.gf eA (aa (pv 1) af)) TC) (ah (bB (aG mQ (pv 2) (zZ M.g_MOST_KNOTS rfl) (aM _)) (aq (aB xw)) aN) (ah (aD (i:=4) cX.nd rfl (by first|exact Or.inl rfl|exact Or.inr rfl) (fK af)) (ah (fJ PassesOwn.never rfl (kR (pv 1)) (bA (i:=5) cX.nd rfl (by first|exact Or.inl rfl|exact Or.inr rfl)) (aq (DZ (BK PySem.F.plainAttrs_list PySem.F.slot_list_extend PySem.F.type_list_extend Jm (pv 4) (aa (uD (N':=["part"]) (own:=1) (fr:=[]) rfl (vc (N:=["value","level","knots","depth","below","knot"]) (sc:=ae gb) rfl rfl rfl (by decide+kernel)) (DH (pv 5)) (jJ (by decide)) (λ_ _ _=>(bA (i:=0) (show List.Nodup (["part"]:List Str)by decide+kernel) rfl (Or.inl rfl))) (λ_ _ _=>(O4 (lJ (bg (y_ (K:=K)) rfl M.bS bH (aa (pv 0) (aa (Fy M.Gd AH rfl) af)))))) (λ_ _ _=>(pv 0))) af))))) (aq (aD (i:=1) cX.nd rfl (by first|exact Or.inl rfl|exact Or.inr rfl) (pv 4)))))))) (aq (aB (ja mQ (bg bo rfl M.gf eA (aa (pv 1) af)) aj (aM _))))))),?_⟩;try dsimp only[jb,c_]
 refine L5 ?_;intro _ _ _ _;refine⟨_,rfl,(by show 1<=sizeLine;decide),λq1 mM=>?_⟩;have e1:(upd H q1 (.lst [v])) q1=some (.lst [v]):=av;have s1:aA H (upd H q1 (.lst [v])):=ag mM _;refine⟨40,rfl,by decide,by decide,IV (n:=40) (λi aY H'=>∃(q:Addr)(us:List V)(k3 k4 k5:Option V),aY=[some v,some (.ref q),some (.int (fb i [KM.D.tup ds])),k3,k4,k5]/\H' q=some (.lst us)/\bu H' (lv i [KM.D.tup ds]) us/\fb i [KM.D.tup ds]<=600/\aA H H') ?_ ?_ ?_⟩;·exact⟨q1,[v],none,none,none,rfl,e1,bu.one (r.mono s1),by simp[fb],s1⟩
 ·rintro i aY H2 hi⟨q2,us,k3,k4,k5,rfl,Vk,rp,hup,s2⟩;have lus:=rp.length;have lvl:=UP i ds;refine⟨_,rfl,_,rfl,q2,us,rfl, .inl (bQ.of Vk),_,_,rfl,rfl,?_⟩;have eu:((fb i [KM.D.tup ds]:Nat):Int)+((us.length:Nat):Int)=((fb (i+1) [KM.D.tup ds]:Nat):Int):=by simp only[fb];omega
  show bP _ _ _ [some v,some (.ref q2),some (.int (((fb i [KM.D.tup ds]:Nat):Int)+((us.length:Nat):Int))),some (.int (0+(i:Int))),k4,k5] H2;rw[eu];refine⟨_,rfl,_,_,rfl,rfl,_,rfl,?_⟩;refine aZ (λc=>?_) (λc=>?_);·have c:(600:Int)<((fb (i+1) [KM.D.tup ds]:Nat):Int):=of_decide_eq_true c;have e:=NA (ds:=ds) (i:=i+1) (by omega);rw[e]at q;exact q H2 s2
  have c:¬(600:Int)<((fb (i+1) [KM.D.tup ds]:Nat):Int):=of_decide_eq_false (Bool.eq_false_iff.mpr c);refine⟨by show 0<=sizeLine;decide,λq4 VT=>?_⟩;have e4:(upd H2 q4 (.lst [])) q4=some (.lst []):=av;have s4:aA H2 (upd H2 q4 (.lst [])):=ag VT _;refine⟨_,rfl,q2,rfl,⟨us,bQ.of (s4 _ _ Vk)⟩,Mj (xs:=us) (λj aY H'=>∃(bs:List V)(k5:Option V),aY=[some v,some (.ref q2),some (.int (fb (i+1) [KM.D.tup ds])),some (.int (0+(i:Int))),some (.ref q4),k5]/\H' q4=some (.lst bs)/\bu H' (((lv i [KM.D.tup ds]).take j).flatMap tk) bs/\aA H2 H') ?_ ?_ ?_ ?_⟩;·exact⟨[],k5,rfl,e4,by simp[bu],s4⟩
  ·rintro j aY H' _⟨bs,k5,rfl,h4,rb,s'⟩;exact bQ.of (s' _ _ Vk)
  ·rintro j u aY H5 hu⟨bs,k5,rfl,h4,rb,s5⟩;obtain⟨d,hd,rd⟩:=rp.get' hu;have htd:=Ez i [KM.D.tup ds] (jS ds) d (List.mem_of_getElem? hd);obtain⟨es,rfl⟩:∃es,d= .tup es:=by cases d<;>first|exact⟨_,rfl⟩|cases htd
   obtain⟨a,ws,rfl,ha,uX⟩:=rd.mono s5;have hsz:ws.length<=sizeLine:=by have h1:=uX.length;have h2:=M9 (KQ i [KM.D.tup ds] (λx hx=>by rw[List.mem_singleton.mp hx];exact ok) _ (List.mem_of_getElem? hd));rw[sizeLine_eq];omega
   refine⟨_,rfl, .inl ⟨rfl,_,bQ.of h4⟩,_,rfl,a,rfl,⟨ws,bN.of ha⟩,λp hp=>Nd ws.length (iJ es ws) hp hsz (λk H6 hk6 s6=>?_) λH6 s6 h6=>?_⟩
   ·obtain⟨wk,hwk⟩:∃x,ws[k]?=some x:=⟨_,List.getElem?_eq_getElem hk6⟩;have hqa:bN K H6 a ws:=bN.of (s6 _ _ ha);refine⟨⟨ws,wk,hqa,hwk⟩,?_⟩;rintro x' H7⟨rfl,hy⟩R R0 hR hR0;have hx:=hy ws hqa;rw[hwk]at hx;cases hx;obtain⟨dk,hdk,rk⟩:=uX.get' hwk;refine⟨_,rfl,_,_,_,_,rfl,(Rep.mono s6 rk).ty,Qe _ dk,_,rfl,?_⟩;refine aZ (λc=>?_) (λc=>?_);·exact⟨_,rfl,hR wk H7 (by simp[iJ,hdk,c,hwk]) (aA.refl _)⟩
    ·exact hR0 H7 (by simp[iJ,hdk,c]) (aA.refl _)
   ·have lb:=rb.length;have h4':=s6 _ _ h4;have n4:q4≠p:=aQ h4 hp;have hl:(lv i [KM.D.tup ds]).take (j+1)=(lv i [KM.D.tup ds]).take j++[KM.D.tup es]:=by rw[List.take_add_one,hd];rfl
    have hfl:((lv i [KM.D.tup ds]).take (j+1)).flatMap tk=((lv i [KM.D.tup ds]).take j).flatMap tk++es.filter isTup:=by rw[hl,List.flatMap_append];simp[tk]
    have rpk:=xJ (uX.mono s6);have lpk:=rpk.length;have lfl:=wH (lv i [KM.D.tup ds]) (j+1);rw[<-pH,hfl,List.length_append]at lfl;have lv1:(lv (i+1) [KM.D.tup ds]).length<=600*21:=by rw[pH];refine Nat.le_trans (BL _ λx hx=>Ur (KQ i [KM.D.tup ds] (λx hx=>by rw[List.mem_singleton.mp hx];exact ok) x hx)) (Nat.mul_le_mul_right _ ?_);simp only[fb]at c;omega
    have np:∀vs,H6 q4≠some (.tup vs):=λvs z=>by rw[h4']at z;cases z
    refine⟨⟨ws,bN.of (s6 _ _ ha),Nat.le_refl _⟩,q4,p,_,_,rfl,rfl,h4',h6,?_,?_⟩;·rw[lb,lpk,sizeLine_eq];omega
    ·refine⟨_,_,rfl,av,?_,λb o hb=>?_⟩;·rw[hfl];exact bu.gW (cJ.upd _) np ((rb.mono s6).append rpk)
     ·rw[aX (aQ hb VT)];exact s6 _ _ (s5 _ _ hb)
  ·rintro aY H5⟨bs,k5,rfl,h4,rb,s5⟩;rw[List.take_of_length_le (by omega),<-pH]at rb;refine⟨_,rfl,q4,bs,_,_,_,rfl,h4,rb,by omega,s2.trans s5⟩
 ·rintro aY H2⟨q2,us,k3,k4,k5,rfl,Vk,rp,hup,s2⟩;refine⟨_,rfl,q2,us,rfl, .inl (bQ.of Vk),_,_,rfl,rfl,?_⟩;have e:decide ((0:Int)<((us.length:Nat):Int))=cE (.tup ds):=by rw[Lv hup,rp.length];simp
  show Q (.bl (decide ((0:Int)<((us.length:Nat):Int)))) H2;rw[e];exact q H2 s2
end K26
end
section
namespace L3
open PySem PySem.Spec PyProof.Rows L2 KM
theorem JV{J:It}{p:Addr}{H1:Hp}{g:TG}{te:TE}{b:L2.St}{C:Hp->Prop}(n:Nat)(B:Nat->Int->Prop)(hp:H1 p=none)(hn:n<=sizeLine)(Kf:∀i H2,i<n->aA H1 H2->J.go i H2/\∀x H3,J.Cf i H2 x H3->∀(R:V->Hp->Prop),(∀(z:Int)H6,aA H2 H6->B i z->R (.int z) H6)->g x b H3 λje H4=>te je H4 R)(hd:∀(ns:List Int)H2,aA H1 H2->ns.length=n->(∀(i:Nat)(z:Int),ns[i]?=some z->B i z)->H2 p=some (.lst (ns.map V.int))->J.stop n H2/\C H2):∃W:Nat->Nat->List V->Hp->Prop,(∃m,W 0 m [] (upd H1 p (.lst [])))/\∀i m acc H2,W i m acc H2->(J.stop i H2/\C H2)\/(J.go i H2/\∀x H3,J.Cf i H2 x H3->g x b H3 λje H4=>CW je H4 λok H5=>if ok=true then te je H5 λv H6=>H6 p=some (.lst acc)/\acc.length<sizeLine/\∃m',m'<m/\W (i+1) m' (acc++[v]) (upd H6 p (.lst (acc++[v])))else∃m',m'<m/\W (i+1) m' acc H5):=by
 refine ug (Q:=λ_ H=>C H) n (λi acc H2=>∃ns:List Int,acc=ns.map V.int/\ns.length=i/\(∀(j:Nat)(z:Int),ns[j]?=some z->B j z)/\H2 p=some (.lst acc)/\aA H1 H2) ⟨[],rfl,rfl,λj z e=>by simp at e,av,ag hp _⟩ ?_ ?_
 ·rintro i acc H2 hi⟨ns,rfl,hl,hB,h2,s2⟩;obtain⟨g1,g2⟩:=Kf i H2 hi s2;refine⟨g1,λx H3 y=>?_⟩;simp only[CW,if_true];refine g2 x H3 y _ λz H6 s6 hz=>⟨s6 _ _ h2,by rw[List.length_map];omega,nx hi ⟨ns++[z],by simp,by simp[hl],λj y e=>?_,av,iy (s2.trans s6) hp⟩⟩;by_cases hj:j<ns.length;·rw[List.getElem?_append_left hj]at e;exact hB j y e
  ·rw[List.getElem?_append_right (by omega)]at e;have :j-ns.length=0:=by
    by_cases q:j-ns.length=0;·exact q
    ·rw[List.getElem?_eq_none (by simp;omega)]at e;cases e
   rw[this]at e;simp at e;subst e;have :j=i:=by omega
   rw[this];exact hz
 ·rintro acc H2⟨ns,rfl,hl,hB,h2,s2⟩;exact hd ns H2 s2 hl hB h2
end L3
namespace L3
open PySem PySem.Spec PyProof.Rows L2 KM
end L3
end
section
set_option maxHeartbeats 1000000
namespace K26
open PySem L2 L3 KM PyProof.Rows
seal L2.PE L2.PS L2.eM L2.PT L2.PW L2.PA L2.PG L2.kW L2.PI L2.PC L2.PO L2.nj L2.PK L3.lr
variable{P:Program}{w:World}{K:PySem.W.Frag}{mg:Str->Option Value}{base:Heap}{t:jo}
theorem JY{k:Bool}{x:Str}{ps:List D}(h:bU aP k (.tup (.str x::ps))=true)(hx:cQ x=true):∀(i:Nat)(p:D),ps[i]?=some p->isTup p=false/\(jc p=true\/aP p=true):=by
 obtain⟨s,h1,h2,h3,h4,h5,h6,h7,_⟩:=cx h;have hc:∀(cs:List Nat)(qs:List D)(i:Nat),gX aP cs qs=true->(∀c∈cs,Vt c=!cQ x)->∀p,qs[i]?=some p->isTup p=false/\(jc p=true\/aP p=true):=λcs=>by
  induction cs with
   |nil=>intro qs i hq _ p e;cases qs with|nil=>simp at e|cons _ _=>simp[gX]at hq
   |cons c cs ih=>
    intro qs i hq hk p e;cases qs with
     |nil=>simp[gX]at hq
     |cons q qs=>
      rw[aT,Bool.and_eq_true]at hq;cases i with
       |zero=>
        simp at e;subst e;have Zt:=hk c List.mem_cons_self;rw[hx]at Zt;have mM:=hq.1;unfold fj at mM;rw[if_neg (λz=>by rw[z,kt1]at Zt;cases Zt),if_neg (λz=>by rw[z,kt2]at Zt;cases Zt)]at mM;split at mM;·exact⟨by cases q<;>simp[jc]at mM<;>rfl, .inl mM⟩
        ·exact⟨by cases q<;>simp[aP]at mM<;>rfl, .inr mM⟩
       |succ i=>exact ih qs i hq.2 (λc hc=>hk c (List.mem_cons_of_mem _ hc)) p (by simpa using e)
 exactλi p e=>hc _ ps i h3 h6 p e
theorem xY:∀(ps:List D),(∀(i:Nat)(p:D),ps[i]?=some p->isTup p=false)->bF ps=0/\az ps=0
 |[],_=>⟨rfl,rfl⟩
 |p::ps,h=>by
  obtain⟨h1,h2⟩:=xY ps λi q e=>h (i+1) q (by simpa using e);have h0:=h 0 p rfl;have e1:cf p=0:=by cases p<;>first|rfl|simp[isTup]at h0
  have e2:depth p=0:=by cases p<;>first|rfl|simp[isTup]at h0
  simp[bF,az,h1,h2,e1,e2]
theorem vE:∀ps:List D,bF ps=(ps.map cf).sum|[]=>rfl|p::ps=>by simp[bF,vE ps]
theorem u_:∀ps:List D,az ps=lY (ps.map depth)|[]=>rfl|p::ps=>by rw[az,u_ ps];rfl
theorem DD{k:Bool}{x:Str}{ps:List D}(h:bU aP k (.tup (.str x::ps))=true):cf (.tup (.str x::ps))=1+((aH x ps).map cf).sum/\depth (.tup (.str x::ps))=1+lY ((aH x ps).map depth):=by
 rw[<-vE,<-u_];have e1:cf (.tup (.str x::ps))=1+bF ps:=by simp[cf,bF]
 have e2:depth (.tup (.str x::ps))=1+az ps:=by simp[depth,az]
 rw[e1,e2];unfold aH;by_cases hx:cQ x=true;·obtain⟨z1,z2⟩:=xY ps λi p e=>(JY h hx i p e).1;rw[if_pos hx,z1,z2];exact⟨rfl,rfl⟩
 ·rw[if_neg hx];exact⟨rfl,rfl⟩
structure Rz(d:D)(n:Nat):Prop where
 wf:Wf d
 dp:depth d<n
 kn:0<=cf d
theorem Rz.kid{n:Nat}{x:Str}{ps:List D}{i:Nat}{p:D}(h:Rz (.tup (.str x::ps)) (n+1))(e:(aH x ps)[i]?=some p):Rz p n:=by obtain⟨k,wf⟩:=h.wf;obtain⟨w1,w2⟩:=Dl wf e;have hd:=h.dp;exact⟨w1,by omega,Nat.zero_le _⟩
structure Rs(d:D)(n:Nat):Prop where
 wf:Wf d
 dp:depth d<n
 kn:cf d<=8000000
mutual noncomputable def c8:D->Bool| .int i=>decide (99<i)| .tup ds=>eW ds|_=>false noncomputable def eW:List D->Bool|[]=>false|d::ds=>c8 d||eW ds end
theorem Ov{ds:List D}:∀{ns:List Int},ns.length=ds.length->(∀(i:Nat)(z:Int),ns[i]?=some z->decide (99<z)=c8 ((ds[i]?).getD .ba))->eW ds=ns.any λz=>decide (99<z):=by
 induction ds with
  |nil=>intro ns h _;cases ns with|nil=>rfl|cons _ _=>simp at h
  |cons d ds ih=>intro ns h hB;cases ns with|nil=>simp at h|cons z ns=>rw[eW,List.any_cons,ih (by simpa using h) (λi z e=>by simpa using hB (i+1) z (by simpa using e)),hB 0 z rfl];rfl
theorem any_max(b:Int):∀(ns:List Int)(d:Int),d<=b->decide (b<maxD ns d)=ns.any λz=>decide (b<z)|[],d,h=>by show decide (b<d)=false;exact decide_eq_false (by omega)|a::r,d,_=>by show decide (b<r.foldl Us a)=_;rw[List.any_cons];induction r generalizing a with|nil=>exact(Bool.or_false _).symm|cons c r ih=>rw[List.foldl_cons,ih,List.any_cons,<-Bool.or_assoc];congr 1;unfold Us;by_cases h1:b<a<;>by_cases h2:b<c<;>simp[h1,h2]<;>split<;>omega
theorem Bb{x:Str}{ps:List D}{k:Bool}(wf:bU aP k (.tup (.str x::ps))=true)(hx:cQ x=true)(hv:x≠"var"):∀(i:Nat)(p:D),ps[i]?=some p->c8 p=false:=λi p e=>by
 have hx:x="name":=by unfold cQ at hx;simp[hv]at hx;exact hx
 subst hx;obtain⟨sh,e1,_,e3,_,e5,_⟩:=cx wf;rw[e8]at e1;cases e1;rw[E3]at e3 e5;cases ps with
  |nil=>simp at e
  |cons p0 rest=>
   cases rest with
    |cons _ _=>simp at e5
    |nil=>
     rw[aT,Bool.and_eq_true]at e3;have hn:aP p0=true:=by simpa[fj]using e3.1
     cases i with|succ i=>simp at e|zero=>simp at e;subst e;cases p0<;>first|rfl|simp[aP]at hn
theorem Ql{x:Str}{ps:List D}{k:Bool}{ns:List Int}{d:Int}(wf:bU aP k (.tup (.str x::ps))=true)(hv:x≠"var")(hd:d<=99)(hl:ns.length=(aH x ps).length)(hB:∀(i:Nat)(z:Int),ns[i]?=some z->decide (99<z)=c8 (((aH x ps)[i]?).getD .ba)):decide (99<maxD ns d)=c8 (.tup (.str x::ps)):=by
 rw[any_max 99 ns d hd,<-Ov hl hB];show _=(false||eW ps);rw[Bool.false_or];unfold aH;split
 ·rename_i hx;symm;show eW ps=false;have key:∀qs:List D,(∀p∈qs,c8 p=false)->eW qs=false:=λqs=>by induction qs with|nil=>intro _;rfl|cons q qs ih=>intro h;rw[eW,h q List.mem_cons_self,ih λp hp=>h p (List.mem_cons_of_mem _ hp)];rfl
  refine key ps λp hp=>?_;obtain⟨i,hi,rfl⟩:=List.mem_iff_getElem.mp hp;exact Bb wf hx hv i _ (List.getElem?_eq_getElem hi)
 ·rfl
noncomputable def EL(n:Nat):Sp:=λvs H Q _=>∃(d:D)(v:V),vs=[v]/\Rep H d v/\Rz d n/\∀(i:Int)(H':Hp),decide (99<i)=c8 d->aA H H'->Q (.int i) H'
end K26
end
section
set_option maxHeartbeats 1000000
namespace K26
open PySem L2 L3 KM PyProof.Rows
seal L2.PE L2.PS L2.eM L2.PT L2.PW L2.PA L2.PG L2.kW L2.PI L2.PC L2.PO L2.nj L2.PK L3.lr
variable{P:Program}{w:World}{K:PySem.W.Frag}{mg:Str->Option Value}{base:Heap}{t:jo}
theorem nM:aK ["thing"] ["thing"] (ae cw):=⟨rfl,rfl,rfl,by decide+kernel,rfl,by decide+kernel,by decide+kernel⟩
theorem m8{n:Nat}(D:Df K mg "top_variable" cw ["thing"])(M:Mg mg t)(bc:bI P w K mg b_ "kids_of" (1) ["thing"] eh)(ff:bI P w K mg b_ "top_variable" (n+3) ["thing"] (EL n)):bI P w K mg b_ "top_variable" (n+4) ["thing"] (EL (n+1)):=by
 refine D.ok nM (λvs H Q E h=>?_) (λbase f cM A outer s H vs Q E hr h=>?_);·obtain⟨d,v,rfl,_⟩:=h;rfl
 obtain⟨d,v,rfl,r,rz,q⟩:=h;obtain⟨x,ps,k,rfl,wf,G7⟩:=mD rz.wf;have Xq:=Io wf;obtain⟨a,J5,rfl,ha,v0,J5,rfl,⟨rfl,hx⟩,rp⟩:=id r;have ea:zK (V.str x::J5) 0=some (.str x):=aF (j:=0) rfl;refine⟨_,(ah (bB (aG cj (aW aR (pv 0) aj (λ_ _=>rfl)) ar (aM _)) (aq (aB (aW aR (pv 0) aj (λ_ _=>rfl)))) aN) (aq (aB (Ph M.NU (aa (uD (N':=["kid"]) (own:=1) (fr:=[]) rfl (vc (N:=["thing"]) (sc:=ae cw) rfl rfl rfl (by decide+kernel)) (kR (aO bc (hr.mono (by omega)) rfl aU (aa (pv 0) af))) (jJ (by decide)) (λ_ _ _=>(bA (i:=0) (show List.Nodup (["kid"]:List Str)by decide+kernel) rfl (Or.inl rfl))) (λ_ _ _=>tG) (λ_ _ _=>(aO ff (hr.mono (by omega)) rfl aU (aa (pv 0) af)))) af) (Pn aj Vg))))),?_⟩;try dsimp only[jb,c_]
 refine wO ?_;intro _ _;refine⟨_,rfl,a,_,_,_,rfl,rfl,bN.of ha,ea,rfl,_,rfl,?_⟩;refine aZ (λc=>?_) (λc=>?_)
 ·have c:V.str x=V.str "var":=of_decide_eq_true c;cases c;obtain⟨sh,e1,_,e3,_,e5,_⟩:=cx wf;rw[eX]at e1;cases e1;rw[A9]at e3 e5;obtain⟨p0,rfl⟩:∃p0,ps=[p0]:=by cases ps with|nil=>simp at e5|cons p0 rest=>cases rest with|nil=>exact⟨p0,rfl⟩|cons _ _=>simp at e5
  rw[aT,Bool.and_eq_true]at e3;have hn:jc p0=true:=by simpa[fj]using e3.1
  obtain⟨i,rfl⟩:∃i,p0= .int i:=by cases p0<;>first|exact⟨_,rfl⟩|simp[jc]at hn
  obtain⟨u1,us1,rfl,r1,_⟩:=rp;cases(show u1=V.int i from r1);have hi:decide (99<i)=c8 (.tup [.str "var", .int i]):=by simp[c8,eW]
  exact⟨_,rfl,a,_,_, .int i,rfl,rfl,bN.of ha,aF (j:=1) rfl,q i H hi (aA.refl H)⟩
 refine⟨_,rfl,x,ps,_,rfl,r,G7,λp1 us H1 _ s1 h1 r1=>⟨p1,rfl,⟨us,bQ.of h1⟩,λp2 Ck=>?_⟩⟩;have l1:=r1.length;refine JV (aH x ps).length (λi z=>decide (99<z)=c8 (((aH x ps)[i]?).getD .ba)) Ck (Nat.le_trans Xq (by decide)) (λi H2 hi s2=>?_) λns H2 s2 hl hB h2=>⟨⟨us,bQ.of (s2 _ _ h1),by omega⟩,?_⟩;·obtain⟨di,J7⟩:∃di,(aH x ps)[i]?=some di:=⟨_,List.getElem?_eq_getElem hi⟩;obtain⟨ui,Q4,UU⟩:=r1.get J7;refine⟨⟨us,ui,bQ.of (s2 _ _ h1),Q4⟩,?_⟩;rintro y H3⟨rfl,hy⟩R hR;have hx:=hy us (bQ.of (s2 _ _ h1));rw[Q4]at hx;cases hx;exact⟨_,rfl,di,ui,rfl,UU.mono s2,rz.kid J7,λz H4 hz s4=>hR z H4 s4 (by rw[J7];exact hz)⟩
 ·refine⟨p2,ns,_,rfl,rfl,bQ.of h2,?_⟩;exact q _ H2 (Ql wf (λz=>c (by rw[z];exact decide_eq_true rfl)) (by decide) hl hB) (s1.trans s2)
theorem iG(D:Df K mg "top_variable" cw ["thing"])(M:Mg mg t)(bc:bI P w K mg b_ "kids_of" (1) ["thing"] eh):∀n:Nat,bI P w K mg b_ "top_variable" (n+3) ["thing"] (EL n)|0=>bI.never D λvs H Q E⟨d,v,_,_,h,_⟩=>absurd h.dp (Nat.not_lt_zero _)|n+1=>m8 D M bc (iG D M bc n)
noncomputable def lE(C:Addr)(n:Nat):Sp:=λvs H Q E=>∃(d:D)(v:V),vs=[v]/\Rep H d v/\Rz d n/\(∀H',aA H H'->(cE d||c8 d)=false->Q v H')/\(∀H',aA H H'->(cE d||c8 d)=true->E (.ref C) none H')
theorem CU:aK ["thing"] ["thing"] (ae iW):=⟨rfl,rfl,rfl,by decide+kernel,rfl,by decide+kernel,by decide+kernel⟩
theorem Jh{n:Nat}(D:Df K mg "bounded" iW ["thing"])(M:Mg mg t)(Pp:lh K t.br)(Jj:bI P w K mg b_ "is_vast" (1) ["value"] Ku)(ff:bI P w K mg b_ "top_variable" (n+3) ["thing"] (EL n)):bI P w K mg (eJ P w) "bounded" (n+4) ["thing"] (lE t.br n):=by
 refine D.MD CU (λvs H Q E h=>?_) (λbase f cM A outer s H vs Q E hr h=>?_);·obtain⟨d,v,rfl,_⟩:=h;rfl
 obtain⟨d,v,rfl,r,rz,q,qe⟩:=h;obtain⟨x,ps,k,rfl,wf,G7⟩:=mD rz.wf;refine⟨_,(ah (bB (L2.PW.pt (BR (lJ (aO Jj (hr.mono (by omega)) rfl aU (aa (pv 0) af))) (yu (aG mQ (aO ff (hr.mono (by omega)) rfl aU (aa (pv 0) af)) (zZ M.g_MOST_VARIABLE rfl) (aM _))))) (aq (ip (G:=(λH'=>E (.ref t.br) none H')) Pp M.g_Great (aa ar af) (λpins σ H s e h' I m q=>j4 I m q))) aN) (aq (aB (pv 0)))),?_⟩;try dsimp only[jb,c_]
 refine wO ?_;intro _ _;refine⟨_,rfl,_,v,rfl,r,Ly wf,rz.kn,λH1 s1=>⟨_,rfl,?_⟩⟩;refine aZ (λc=>AI ⟨by decide,qe H1 s1 (by rw[c];rfl)⟩) (λc=>?_);refine⟨_,rfl,_,v,rfl,r.mono s1,rz,λi H2 hi s2=>⟨_,_,rfl,rfl,_,rfl,?_⟩⟩;have c:cE (.tup (.str x::ps))=false:=Bool.eq_false_iff.mpr c;refine aZ (λc2=>⟨by decide,qe H2 (s1.trans s2) (by rw[<-hi,c];exact c2)⟩) (λc2=>⟨_,rfl,q H2 (s1.trans s2) (by rw[<-hi,c];exact Bool.eq_false_iff.mpr c2)⟩)
noncomputable def fg(x:Str)(ps qs:List D):D:=if qs=[]then .tup (.str x::ps)else .tup (.str x::qs)
noncomputable def fW:Sp:=λvs H Q _=>∃(x:Str)(ps qs:List D)(v:V)(a:Addr)(us:List V),vs=[v, .ref a]/\Rep H (.tup (.str x::ps)) v/\H a=some (.lst us)/\bu H qs us/\qs.length<=10/\∀(u:V)(H':Hp),aA H H'->Rep H' (fg x ps qs) u->Q u H'
theorem Dz:aK ["thing","kids"] ["thing","kids"] (ae iQ):=⟨rfl,rfl,rfl,by decide+kernel,rfl,by decide+kernel,by decide+kernel⟩
theorem JA(D:Df K mg "rebuilt" iQ ["thing","kids"])(M:Mg mg t):bI P w K mg b_ "rebuilt" (1) ["thing","kids"] fW:=by
 refine D.ok Dz (λvs H Q E h=>?_) (λbase f cM A outer s H vs Q E hr h=>?_);·obtain⟨x,ps,qs,v,a,us,rfl,_⟩:=h;rfl
 obtain⟨x,ps,qs,v,a,us,rfl,r,ha,rq,hl,q⟩:=h;have lq:=rq.length;obtain⟨b,J5,rfl,hb,v0,J5,rfl,⟨rfl,hx⟩,rp⟩:=id r;refine⟨_,(ah (bB (aG cj (bg bo rfl M.gf eA (aa (pv 1) af)) aj (aM _)) (aq (aB (pv 0))) aN) (aq (aB (bh pE (ay (aa (aW aR (pv 0) aj (λ_ _=>rfl)) af)) (l5 wR rfl M.Gd AH (aa (pv 1) af)))))),?_⟩;try dsimp only[jb,c_]
 refine wO ?_;intro _ _;refine⟨_,rfl,a,_,rfl, .inl (bQ.of ha),rfl,_,rfl,?_⟩;refine aZ (λc=>?_) (λc=>?_)
 ·have c:V.int ((us.length:Nat):Int)=V.int 0:=of_decide_eq_true c;have hq:qs=[]:=by injection c with c;exact List.length_eq_zero_iff.mp (by omega)
  refine⟨_,rfl,q _ H (aA.refl H) ?_⟩;unfold fg;rw[if_pos hq];exact r
 ·have hq:qs≠[]:=λz=>c (by subst z;have :us.length=0:=lq;rw[this];exact decide_eq_true rfl);refine⟨_,rfl,b,_,_,_,rfl,rfl,bN.of hb,aF (j:=0) rfl,(by show 1<=sizeLine;decide),λp1 lC=>?_⟩;have s1:=ag lC (.tup [V.str x]);refine⟨_,rfl,a,us,rfl, .inl ⟨bQ.of (s1 _ _ ha),λp2 Ck=>?_⟩⟩;have s2:=ag Ck (.tup us);refine⟨p1,p2,_,_,rfl,rfl,s2 _ _ av,av,?_,λp3 H3 s3 h3=>?_⟩;·rw[List.length_singleton,sizeLine_eq];omega
  ·refine q _ H3 (s1.trans (s2.trans s3)) ?_;unfold fg;rw[if_neg hq];exact⟨p3,_,rfl,h3,_,_,rfl,⟨rfl,hx⟩,rq.mono (s1.trans (s2.trans s3))⟩
end K26
end
section
set_option maxHeartbeats 1000000
namespace K26
open PySem L2 L3 KM PyProof.Rows
seal L2.PE L2.PS L2.eM L2.PT L2.PW L2.PA L2.PG L2.kW L2.PI L2.PC L2.PO L2.nj L2.PK L3.lr
variable{P:Program}{w:World}{K:PySem.W.Frag}{mg:Str->Option Value}{base:Heap}{t:jo}
end K26
end
section
set_option maxHeartbeats 1000000
namespace K26
open PySem L2 L3 KM PyProof.Rows
seal L2.PE L2.PS L2.eM L2.PT L2.PW L2.PA L2.PG L2.kW L2.PI L2.PC L2.PO L2.nj L2.PK L3.lr
variable{P:Program}{w:World}{K:PySem.W.Frag}{mg:Str->Option Value}{base:Heap}{t:jo}
noncomputable def vf(d:D):Bool:=Nk d&&!Ng d
noncomputable def BC:Sp:=λvs H Q _=>∃d v,vs=[v]/\Rep H d v/\Q (.bl (vf d)) H
theorem yS:aK ["value"] ["value"] (ae fH):=⟨rfl,rfl,rfl,by decide+kernel,rfl,by decide+kernel,by decide+kernel⟩
theorem AY(D:Df K mg "is_number" fH ["value"])(M:Mg mg t):bI P w K mg b_ "is_number" (1) ["value"] BC:=by
 refine D.ok yS (λvs H Q E h=>?_) (λbase f cM A outer s H vs Q E hr h=>?_);·obtain⟨d,v,rfl,_⟩:=h;rfl
 obtain⟨d,v,rfl,r,q⟩:=h;refine⟨_,(aq (aB (R3 (bg iF rfl M.bS bH (aa (pv 0) (aa (Fy M.XH Sh rfl) af))) (Mb (So (bg iF rfl M.bS bH (aa (pv 0) (aa (Fy M.US Ol rfl) af)))))))),?_⟩;try dsimp only[jb,c_]
 refine⟨_,rfl,_,_,_,_,rfl,r.ty,O2 _ d,_,rfl,?_⟩;refine aZ (λc=>?_) (λc=>?_)
 ·refine⟨_,rfl,_,_,_,_,rfl,r.ty,UD _ d,_,rfl,?_⟩;have e:vf d=!Ng d:=by unfold vf;rw[c];rfl
  rw[e]at q;exact q
 ·have e:vf d=false:=by unfold vf;rw[Bool.eq_false_iff.mpr c];rfl
  rw[e]at q;exact q
noncomputable def wa:D->List D| .tup (.str x::ps)=>aH x ps|_=>[]
noncomputable def dB(d:D)(i:Int):Option D:=if 0<=i then(wa d)[i.toNat]? else none
noncomputable def goto:D->List Int->Option D|d,[]=>some d|d,i::is=>match dB d i with|none=>none|some p=>goto p is
noncomputable def headD:D->Str| .tup (.str x::_)=>x|_=>""
noncomputable def bnd(d:D)(i:Int):Int:=if decide (V.int i=Cp (headD d))=true then 1 else 0
noncomputable def over:D->List Int->Int|_,[]=>0|d,i::is=>match dB d i with|none=>0|some p=>bnd d i+over p is
theorem AZ{d p:D}{i:Int}(h:Wf d)(e:dB d i=some p):Wf p:=by
 obtain⟨k,h⟩:=h;obtain⟨x,ps,rfl⟩:=sf h;unfold dB at e;split at e;·exact(Dl h e).1
 ·cases e
theorem fV{d p:D}{i:Int}{is:List Int}(e:dB d i=some p):goto d (i::is)=goto p is:=by rw[goto,e]
theorem xK{d:D}{i:Int}{is:List Int}(e:dB d i=none):goto d (i::is)=none:=by rw[goto,e]
theorem Ms{d:D}{i:Int}(h1:0<=i)(h2:i<(wa d).length):∃p,dB d i=some p/\(wa d)[i.toNat]?=some p:=by unfold dB;rw[if_pos h1];exact⟨_,List.getElem?_eq_getElem (by omega),List.getElem?_eq_getElem (by omega)⟩
theorem xX{d:D}{i:Int}(h:¬(0<=i/\i<(wa d).length)):dB d i=none:=by
 unfold dB;split;·rename_i h1;exact List.getElem?_eq_none_iff.mpr (by omega)
 ·rfl
noncomputable def rP(C:Addr):Sp:=λvs H Q E=>∃(d:D)(v:V)(i:Int),vs=[v, .int i]/\Rep H d v/\Wf d/\(∀(p:D)(u:V)(H':Hp),aA H H'->dB d i=some p->Rep H' p u->Q u H')/\(∀H',aA H H'->dB d i=none->E (.ref C) none H')
theorem xQ:aK ["thing","number","kids"] ["thing","number"] (ae kN):=⟨rfl,rfl,rfl,by decide+kernel,rfl,by decide+kernel,by decide+kernel⟩
theorem LW(D:Df K mg "kid_at" kN ["thing","number"])(M:Mg mg t)(JE:lh K t.bz)(bc:bI P w K mg b_ "kids_of" (1) ["thing"] eh)(AX:bI P w K mg b_ "is_number" (1) ["value"] BC):bI P w K mg (eJ P w) "kid_at" (2) ["thing","number"] (rP t.bz):=by
 refine D.MD xQ (λvs H Q E h=>?_) (λbase f cM A outer s H vs Q E hr h=>?_);·obtain⟨d,v,i,rfl,_⟩:=h;rfl
 obtain⟨d,v,i,rfl,r,wf,q,qe⟩:=h;obtain⟨x,ps,k,rfl,wfk,G7⟩:=mD wf;refine⟨_,(ah (aD (i:=2) xQ.nd rfl (by first|exact Or.inl rfl|exact Or.inr rfl) (aO bc (hr.mono (by omega)) rfl aU (aa (pv 0) af))) (ah (bB (L2.PW.pt (BR (CY (lJ (aO AX (hr.mono (by omega)) rfl aU (aa (pv 1) af)))) (yu (CY (Nj RE ZT aj (pv 1) (bg bo rfl M.gf eA (aa (pv 2) af))))))) (aq (ip (G:=(λH'=>E (.ref t.bz) none H')) JE M.g_NoPlace (aa ar af) (λpins σ H s e h' I m q=>j4 I m q))) aN) (aq (aB (aW fw (pv 2) (pv 1) (λ_ _=>rfl)))))),?_⟩;try dsimp only[jb,c_]
 refine Dk ?_;intro _ _ _;refine⟨_,rfl,x,ps,v,rfl,r,G7,λp1 us H1 lC s1 h1 r1=>?_⟩;have l1:=r1.length;have hk:wa (.tup (.str x::ps))=aH x ps:=rfl;refine⟨_,rfl, .int i,_,rfl,rfl,?_⟩;have bad:dB (.tup (.str x::ps)) i=none->E (.ref t.bz) none H1:=λz=>qe H1 s1 z;refine⟨true,rfl,nI ⟨_,rfl,_,_,rfl,rfl,_,rfl,?_⟩⟩;refine aZ (λc=>?_) (λc=>?_)
 ·have c:(0:Int)<=i:=of_decide_eq_true c;refine⟨_,rfl,p1,_,rfl, .inl (bQ.of h1),_,_,rfl,rfl,_,rfl,?_⟩;by_cases c2:i<((us.length:Nat):Int)
  ·rw[decide_eq_true c2];refine nI ?_;obtain⟨p,e1,e2⟩:=Ms (d:= .tup (.str x::ps)) c (by rw[hk,<-l1];exact c2);obtain⟨u,hu,ru⟩:=r1.get e2;have ei:i=((i.toNat:Nat):Int):=by omega
   exact⟨_,rfl,_,rfl,p1,_,_,u,rfl,rfl,bQ.of h1,(by rw[ei];exact aF hu),q p u H1 s1 e1 ru⟩
  ·rw[decide_eq_false c2];exact AI ⟨by decide,bad (xX λz=>c2 (by rw[l1];exact z.2))⟩
 ·have c:¬(0:Int)<=i:=of_decide_eq_false (Bool.eq_false_iff.mpr c);exact⟨_,rfl,AI ⟨by decide,bad (xX λz=>c z.1)⟩⟩
noncomputable def Qc(pl:List Int):D:= .tup (pl.map D.int)
theorem Ub{H:Hp}{pl:List Int}{vs:List V}(r:bu H (pl.map D.int) vs){j:Nat}{i:Int}(e:pl[j]?=some i):vs[j]?=some (.int i):=by obtain⟨v,h1,h2⟩:=r.get (i:=j) (d:= .int i) (by rw[List.getElem?_map,e];rfl);rw[h1,show v=V.int i from h2]
theorem drop_cons{α:Type}{l:List α}{j:Nat}{i:α}(e:l[j]?=some i):l.drop j=i::l.drop (j+1):=by obtain⟨h,rfl⟩:=List.getElem?_eq_some_iff.mp e;exact List.drop_eq_getElem_cons h
noncomputable def Ua(C:Addr):Sp:=λvs H Q E=>∃(d:D)(v:V)(pl:List Int)(pv:V),vs=[v,pv]/\Rep H d v/\Wf d/\Rep H (Qc pl) pv/\(∀(e:D)(u:V)(H':Hp),aA H H'->goto d pl=some e->Rep H' e u->Q u H')/\(∀H',aA H H'->goto d pl=none->E (.ref C) none H')
theorem fu:aK ["thing","place","here","number"] ["thing","place"] (ae gT):=⟨rfl,rfl,rfl,by decide+kernel,rfl,by decide+kernel,by decide+kernel⟩
theorem C0(D:Df K mg "at_place" gT ["thing","place"])(M:Mg mg t)(fQ:bI P w K mg (eJ P w) "kid_at" (2) ["thing","number"] (rP t.bz)):bI P w K mg (eJ P w) "at_place" (3) ["thing","place"] (Ua t.bz):=by
 refine D.MD fu (λvs H Q E h=>?_) (λbase f cM A outer s H vs Q E hr h=>?_);·obtain⟨d,v,pl,pv,rfl,_⟩:=h;rfl
 obtain⟨d,v,pl,pv,rfl,r,wf,rp,q,qe⟩:=h;obtain⟨a,ws,rfl,ha,uX⟩:=rp;have lw:=uX.length;rw[List.length_map]at lw;refine⟨_,(ah (aD (i:=2) fu.nd rfl (by first|exact Or.inl rfl|exact Or.inr rfl) (pv 0)) (ah (fJ NO rfl (DH (pv 1)) (bA (i:=3) fu.nd rfl (by first|exact Or.inl rfl|exact Or.inr rfl)) (aq (aD (i:=2) fu.nd rfl (by first|exact Or.inl rfl|exact Or.inr rfl) (aO fQ (hr.mono (by omega)) rfl cq (aa (pv 2) (aa (pv 3) af)))))) (aq (aB (pv 2))))),?_⟩;try dsimp only[jb,c_]
 refine Dk ?_;intro _ _ _;refine⟨_,rfl,_,rfl,a,rfl,⟨_,bN.of ha⟩,?_⟩;let CF:Nat->L2.St->Hp->Prop:=(λj aY H'=>∃(e:KM.D)(u:V)(nv:Option V),aY=[some v,some (.ref a),some u,nv]/\Rep H' e u/\Wf e/\goto d pl=goto e (pl.drop j)/\aA H H');refine iC ws.length CF ?_ ?_ ?_;·exact⟨d,v,none,rfl,r,wf,rfl,aA.refl _⟩
 ·rintro j aY H1 hj⟨e,u,nv,rfl,re,we,hg,s1⟩;obtain⟨i,hi⟩:∃i,pl[j]?=some i:=⟨_,List.getElem?_eq_getElem (by omega)⟩;have hw:=Ub uX hi;refine⟨⟨ws,_,bN.of (s1 _ _ ha),hw⟩,?_⟩;rintro x' H2⟨rfl,hy⟩;have hy:=hy ws (bN.of (s1 _ _ ha));rw[hw]at hy;cases hy;rw[drop_cons hi]at hg;refine⟨_,rfl,_,rfl,e,u,i,rfl,re,we,λp u' H' s' ek rk=>?_,λH' s' ek=>?_⟩;·exact⟨p,u',_,rfl,rk,AZ we ek,by rw[hg,fV ek],s1.trans s'⟩
  ·exact qe H' (s1.trans s') (by rw[hg,xK ek])
 ·rintro aY H1⟨e,u,nv,rfl,re,we,hg,s1⟩;rw[lw,List.drop_length]at hg;exact⟨⟨ws,bN.of (s1 _ _ ha),Nat.le_refl _⟩,_,rfl,q e u H1 s1 hg re⟩
end K26
end
section
namespace L3
open PySem PySem.Spec PyProof.Rows L2
theorem Oy{X:Cx}{ix:Nat}{x:Str}{pos' apos:Pos}{tg iter elt:Expr}{ifs:List Expr}{scope:Scope}{pos:Pos}{wi:TI}{g:TG}{tt:TT}{te:TE}{N':List Str}{own:Nat}{fr:List Nat}(hN:X.N.Nodup)(hix:X.N[ix]?=some x)(hlx:X.env.scope.names.lookup x=some .local)(hc:X.calm=true)(S:kM X N' own fr scope)(hi:PI X tg iter wi)(ho:Own own g)(hg:∀s3 H3 fp,PG (c7 X N' scope s3 H3 fp) tg g)(hf:∀s3 H3 fp,lr (c7 X N' scope s3 H3 fp) ifs tt)(he:∀s3 H3 fp,PE (c7 X N' scope s3 H3 fp) elt te)(hsw:swapsWithSole [.Name x pos'] (.ListComp elt [⟨tg,iter,ifs,0⟩] scope pos) apos.line X.env=pure true:=by rfl)(hs:∀x,foldedSetIterable iter X.env x=pure x:=by intro _;rfl):PS X (.Assign [.Name x pos'] (.ListComp elt [⟨tg,iter,ifs,0⟩] scope pos) apos) (Tc (QA own fr wi g tt te) (vZ ix)):=by
 intro pins s σ H D I h;have FG:∀x∈scope.names,x.2= .free->∃c,X.env.cells.lookup x.1=some c:=λx hx e=>I.ok.has x.1 (S.free x hx e);rw[exec_Assign_arm];refine wpAny_bind (wpAny_standAt (wpAny_bind (wpAny_of_eq hsw ?_)));rw[if_pos rfl,arm_evalThenUse_ListComp];refine wpAny_bind (wpAny_bind (wpAny_mono (Q:=λ_ s'=>SP X pins D .next s') ?_ (λ_ s' q=>wpAny_pure (wpAny_pure q)) λ_ _ z=>z));refine wpAny_comprehension_free (use:=some _) (Q:=λ_ s'=>SP X pins D .next s') rfl hs (vW FG) S.kind S.loc ?_;refine bG (hi pins s σ H _ I h) λv s1 h1=>bG h1 λitv s2 h2=>?_;obtain⟨it,fp,tn,J,H2,e,I2,T,TU,f2,h2⟩:=h2;subst e;refine wpAny_newObj_type (hd:=by size_fits) (wpAny_newFunctionEnv S.l9 (by intro y hy;simp at hy) (λh4 CT RZ=>?_) S.kind);have TJ:=I2.bJ.fresh (Nat.le_refl s2.heap.objs.size);obtain⟨W,⟨m0,w0⟩,turn⟩:=h2 _ TJ;have I3:Inv X pins σ (upd H2 s2.heap.objs.size (.lst [])) {s2 with heap:=s2.heap.push {cls:= .type "list",dict:=none,data:= .seq ([]:List Value).toArray},toks:=s2.toks}:=I2.Zm .nil (Nat.zero_le _);have Y0:∀b∈fp,b<s2.heap.objs.size:=λb hb=>let⟨o,e,_⟩:=T.obj _ _ TU b hb;Heap.lt_size e;have up2:∀b o,s2.heap.get? b=some o->∀ob:Obj,(s2.heap.push ob).get? b=some o:=λb o e ob=>Heap.get?_push_of_some _ e;have XI:(s2.heap.push {cls:= .type "list",dict:=none,data:= .seq ([]:List Value).toArray}).objs.size=s2.heap.objs.size+1:=Heap.size_push ..;revert CT RZ I3;generalize e3:s2.heap.push {cls:= .type "list",dict:=none,data:= .seq ([]:List Value).toArray}=h3 at XI⊢;intro CT RZ I3;have keep:∀b o,h3.get? b=some o->h4.get? b=some o:=λb o e=>(RZ.2 b (Nat.ne_of_lt (Heap.lt_size e))).trans (Heap.get?_push_of_some _ e);have Tr:∀b∈fp,ku X pins (upd H2 s2.heap.objs.size (.lst [])) b/\b<h3.objs.size:=λb hb=>by refine⟨⟨?_,(f2 b hb).2⟩,by rw[XI];exact Nat.lt_succ_of_lt (Y0 b hb)⟩;rw[aX (Nat.ne_of_lt (Y0 b hb))];exact(f2 b hb).1
 have I4:=G_ (t4:=s2.toks+([]:List (Str×Value)).length) S I3 Tr keep CT;have UI:tn 0 h4:=T.keep _ _ _ TU λb hb o e=>keep b o (by rw[<-e3];exact up2 b o e _);have vN:∀{H':Hp},(∀b∈fp,H' b=none)->∀b∈fp,ku (c7 X N' scope {s2 with heap:=h3,toks:=s2.toks} (upd H2 s2.heap.objs.size (.lst [])) fp) [] H' b:=λ{H'}hn b hb=>⟨hn b hb,Nat.ne_of_lt (Tr b hb).2,λz=>I4.ok.Ah b hb z, .inl hb,(I4.ok.Sd b hb).2,λp hp=>(f2 b hb).2.2.2.2.2 p (List.mem_append_left _ (by simpa using hp))⟩;have loop:∀sx:Shared,Inv (c7 X N' scope {s2 with heap:=h3,toks:=s2.toks} (upd H2 s2.heap.objs.size (.lst [])) fp) [] (fG own fr σ) (upd H2 s2.heap.objs.size (.lst [])) sx->tn 0 sx.heap->codeAny (model X.prog X.w) X.A (.compLoop (.ListComp elt [⟨tg,iter,ifs,0⟩] scope pos) 0 (.ref it) (.ref s2.heap.objs.size) (DM X scope h3.objs.size)) (compPost (model X.prog X.w) X.A X.xe (some λv=>assignAll v ((assignEach [.Name x pos'] X.env).map (·.2))) (λ_ s'=>SP X pins D .next s') (.ref s2.heap.objs.size) h3.objs.size) sx:=by
  intro sx Ix tx;refine ma (λn s'=>∃i acc H',Inv (c7 X N' scope {s2 with heap:=h3,toks:=s2.toks} (upd H2 s2.heap.objs.size (.lst [])) fp) [] (fG own fr σ) H' s'/\tn i s'.heap/\(∀b∈fp,H' b=none)/\W i n acc H') ?_ m0 ⟨0,[],_,Ix,tx,λb hb=>(Tr b hb).1.1,w0⟩;rintro n s5⟨i,acc,H5,I5,Pu,UL,w5⟩;rcases turn i n acc H5 w5 with⟨stop,qn⟩|⟨go,step⟩
  ·refine bG (T.done (c7 X N' scope {s2 with heap:=h3,toks:=s2.toks} (upd H2 s2.heap.objs.size (.lst [])) fp) rfl rfl rfl hc i [] s5 _ H5 (λ_ _=>False) I5 (vN UL) Pu stop) λr s6⟨hr,I6⟩=>?_;subst hr;obtain⟨m6,hm6,_⟩:=id I6.loc;have I7:Inv X pins σ H5 s6:=I3.Mi (s':=s6) (ch:=fp) I6.os (vF (h2:=s6.heap) I6.base (Nat.le_refl _) ⟨rfl,λ_ _=>rfl⟩) I6.bJ I6.bare λb hb=>⟨(f2 b hb).2.2.2.1,(f2 b hb).2.1,(f2 b hb).2.2.2.2.1,(f2 b hb).2.2.2.2.2⟩;show wpAny _ _ (assign (.Name x pos') X.env (.ref s2.heap.objs.size)) _ _ _;refine wpAny_assign_Name (xF (v:= .ref s2.heap.objs.size) I7 hN hix (.inl hlx) rfl (λs8 I8⟨a8,sb8,ha8⟩=>?_) (.inr hlx));have ltc:∀y c,X.env.cells.lookup y=some c->c<h3.objs.size:=λy c e=>by obtain⟨v,o,eo,_⟩:=I3.cell y c e;exact Heap.lt_size eo
   have na8:h3.objs.size≠a8:=by
    rcases ha8 with z|z;·rw[z];exact Nat.ne_of_gt I3.lt
    ·exact Nat.ne_of_gt (ltc _ _ z)
   obtain⟨o6,es6,ep6,ho6,r6⟩:=hm6;refine⟨m6,⟨o6,es6,ep6,(sb8.2 _ na8).trans ho6,r6⟩,λh9 hs9=>?_⟩;have I9:=I8.turned (h':=h9) (t':=s8.toks) (it:=h3.objs.size) (λb o hb e=>(hs9.2 b hb).trans e) I6.free (Nat.ne_of_gt I3.lt) (.inr I3.sz) (λy c e=>Nat.ne_of_lt (ltc y c e)) λp hp=>Nat.ne_of_lt (Heap.lt_size (I3.pin p hp).1);exact⟨_,H5,I9,qn⟩
  ·refine bG (T.item (c7 X N' scope {s2 with heap:=h3,toks:=s2.toks} (upd H2 s2.heap.objs.size (.lst [])) fp) rfl rfl rfl hc i [] s5 _ H5 (λ_ _=>False) I5 (vN UL) Pu go) λr s6⟨u,hr,h6⟩=>?_;subst hr;refine bG h6 λ_ s7⟨x,H7,I7,r7,y7,UA,fr7⟩=>?_;have I7':=I7.pinned (vN fr7) (T.obj _ _ UA);refine bG (hg _ _ _ _ s7 _ H7 x u _ I7' r7 (ho _ _ _ _ (step x H7 y7))) λ_ s8⟨PX,H8,I8,q8,l8,k8⟩=>?_;have again:∀{H9:Hp}{s9:Shared},Inv (c7 X N' scope {s2 with heap:=h3,toks:=s2.toks} (upd H2 s2.heap.objs.size (.lst [])) fp) ([]++l6 fp s7.heap) PX H9 s9->Inv (c7 X N' scope {s2 with heap:=h3,toks:=s2.toks} (upd H2 s2.heap.objs.size (.lst [])) fp) [] (fG own fr σ) H9 s9/\tn (i+1) s9.heap/\∀b∈fp,H9 b=none:=λ{H9 s9}I9=>by
    refine⟨I9.iA.weak l8.symm λj v e=>?_,T.keep _ _ _ UA λb hb o e=>(I9.pin (b,o) (List.mem_append_right _ (List.mem_append_right _ (d_ hb e)))).1,λb hb=>?_⟩
    ·have hj:own<=j:=by refine Nat.le_of_not_lt λz=>?_;unfold fG at e;rw[List.getElem?_append_left (by simpa using z),List.getElem?_replicate]at e;split at e<;>cases e
     rw[k8 j hj];exact e
    ·obtain⟨o,e,_⟩:=T.obj _ _ UA b hb;exact(I9.pin (b,o) (List.mem_append_right _ (List.mem_append_right _ (d_ hb e)))).2.1
   refine bG (hf _ _ _ _ s8 PX H8 _ I8 q8) λok s9⟨H9,I9,q9⟩=>?_;cases ok with|false=>obtain⟨m',Jk,w9⟩:=q9;obtain⟨a1,a2,a3⟩:=again I9;exact⟨m',Jk,i+1,acc,H9,a1,a2,a3,w9⟩|true=>refine bG (he _ _ _ _ s9 PX H9 _ I9 q9) λy HS⟨v,Mr,I10,r10,Tz,Vo,m',Jk,w10⟩=>?_;refine bG (lN _ HS PX Mr (.ref s2.heap.objs.size) [v] (.ref s2.heap.objs.size) [y] (λ_ Hn=>Hn=upd Mr s2.heap.objs.size (.lst (acc++[v]))) I10 rfl (.cons r10 .nil) ⟨_,acc,v,rfl,rfl,Tz,Vo,rfl⟩) λ_ N_⟨_,H11,I11,_,e11⟩=>?_;subst e11;obtain⟨a1,a2,a3⟩:=again I11;exact⟨m',Jk,i+1,acc++[v],_,a1,a2,a3,w10⟩
 exact codeAny_compStart_list (loop _ I4 UI) (wpAny_mono (T.self X.A 0 _ (λv s'=>v= .ref it/\s'=_) (λ_ _=>False) UI ⟨rfl,rfl⟩) (λv s'⟨e1,e2⟩=>by subst e1;subst e2;exact loop _ I4 UI) λ_ _ f=>f.elim)
end L3
end
section
namespace L3
open PySem PySem.Spec PyProof.Rows L2 KM
end L3
end
section
set_option maxHeartbeats 1000000
namespace K26
open PySem L2 L3 KM PyProof.Rows
noncomputable def putD:D->List Int->D->D|_,[],e=>e| .tup (.str x::ps),i::is,e=> .tup (.str x::ps.set i.toNat (putD ((ps[i.toNat]?).getD .ba) is e))|d,_::_,_=>d
theorem xZ{x:Str}{ps:List D}{i:Int}{p:D}(h:dB (.tup (.str x::ps)) i=some p):0<=i/\cQ x=false/\ps[i.toNat]?=some p:=by
 unfold dB at h;split at h
 ·rename_i h0;have h:(aH x ps)[i.toNat]?=some p:=h;unfold aH at h;split at h;·simp at h
  ·rename_i hx;exact⟨h0,by simpa using hx,h⟩
 ·cases h
theorem u9{x:Str}{ps:List D}{i:Int}{is:List Int}{p e:D}(h:dB (.tup (.str x::ps)) i=some p):putD (.tup (.str x::ps)) (i::is) e= .tup (.str x::ps.set i.toNat (putD p is e)):=by rw[putD,(xZ h).2.2];rfl
noncomputable def mU(pl:List Nat):List Int:=pl.map λn:Nat=>(n:Int)
end K26
end
section
namespace L3
open PySem PySem.Spec PyProof.Rows L2 KM
section
variable{X:Cx}
theorem Cg:∀{ys:List Str}{us:List Value},Vals (ys.map V.str) us->StrsAre us ys|[],_, .nil=> .nil|y::ys,_, .cons r t=>by obtain⟨tk,rfl⟩:=(show∃t,_=Value.str y t from r);exact .cons y tk (Cg t)
noncomputable def rJoin(K:PySem.W.Frag):V->List V->Hp->VK->Prop:=λx vs H Q=>∃(z:Str)(l:Addr)(ys:List Str),x= .str z/\vs=[.ref l]/\bQ K H l (ys.map V.str)/\(ys.map (·.length)).sum+ys.length*z.length<=16777216/\Q (.str (Txt.join z ys)) H
theorem Pq:MtR X "str.join" (rJoin X.K):=by intro pins s σ H x vs v us Q I rx rv h;obtain⟨z,l,ys,rfl,rfl,hl,ho,q⟩:=h;obtain⟨u,rfl,ru⟩:=rv.one;obtain⟨t,rfl⟩:=(show∃t,v=Value.str z t from rx);cases ru;obtain⟨aI,r,p,_⟩:=I.list hl;exact join_list p.isList (by simpa using Cg r) ho λt' k=>⟨.str _,H,I.tok _,⟨_,rfl⟩,q⟩
theorem xy(hh:X.A.handled=none):jl X (.builtin "max") (λxs H Q=>∃i j:Int,xs=[.int i, .int j]/\Q (.int (if j>i then j else i)) H):=by
 intro pins s σ H xs us Q I r h;obtain⟨i,j,rfl,q⟩:=h;obtain⟨u1,u2,rfl,r1,r2⟩:=Vals.two r;obtain⟨t1,rfl⟩:=(show∃t,u1=Value.int i t from r1);obtain⟨t2,rfl⟩:=(show∃t,u2=Value.int j t from r2);refine max_two_ints hh λh' tk hk=>⟨.int (if j>i then j else i),H,I.kept (h':=h') (t':=tk) hk,?_,q⟩;split;·exact⟨_,rfl⟩
 ·exact⟨_,rfl⟩
end
section
variable{X:Cx}{pins:List (Addr×Obj)}{σ:L2.St}{H:Hp}{s:Shared}{a:Addr}{D:List (Str×V)}{k:Str}{tk:Tok}{A:Around}{E:Value->Shared->Prop}
theorem Lf{Q:Value->Shared->Prop}{x:V}{u0:Value}(T:jE X.K a D)(I:Inv X pins σ H s)(rx:RelV x u0)(h:∀w',RelV ((KTD.datumAt k D).getD x) w'->Q w' {s with toks:=s.toks+1}):wpAny (model X.prog X.w) A (call (.builtin "dict.get") [.ref a, .str k tk,u0]) Q E s:=by
 have ty:=T.typeIs I;refine wpAny_call_entry PySem.F.slot_dict_get ty PySem.F.entry_dict_get ?_ (PySem.F.args_dict_get_3 _ _ _);show wpAny (model X.prog X.w) _ (dictGet a (.str k tk)>>=_) _ _ s;refine wpAny_bind (zQ T I (λv u e r=>?_) λhn=>?_);·have h:=h u (by rw[e];exact r);exact wpAny_pure ⟨u,rfl,h⟩
 ·have h:=h u0 (by rw[hn];exact rx);refine wpAny_bind ?_;unfold Builtin.Dict.missed;rw[T.sys];simp only[Bool.false_eq_true,if_false];exact wpAny_pure (wpAny_pure ⟨_,rfl,h⟩)
end
noncomputable def U0(K:PySem.W.Frag)(td ty tx:TE):TE:=λσ H Q=>td σ H λx H1=>∃a D,x= .ref a/\jE K a D/\ty σ H1 λy H2=>tx σ H2 λz H3=>∃k,y= .str k/\Q ((KTD.datumAt k D).getD z) H3
theorem Kd{X:Cx}{o e f:Expr}{apos dR:Pos}{td ty tx:TE}(ho:PE X o td)(he:PE X e ty)(hf:PE X f tx)(m:M2 X o "get" apos e f dR):PE X (.Call (.Attribute o "get" apos) [e,f] [] dR) (U0 X.K td ty tx):=by
 intro pins s σ H Q I h;refine wpAny_Call_method m.base m.few m.line PySem.F.plainAttrs_dict PySem.F.slot_dict_get PySem.F.type_dict_get (bG (ho pins s σ H _ I h) λu s1⟨x,H1,I1,rx,a,D,ex,T,q1⟩=>?_);subst ex;obtain rfl:u=Value.ref a:=rx;have t1:=T.typeIs I1;refine⟨t1,λb q=>?_,?_⟩;·cases q;obtain⟨o,_,_,e,x,_⟩:=T.ex;exact⟨o,I1.iY a o e,x.2.1⟩
 rw[m.trees];refine Calls.callWith_builtin rfl (Calls.evalArgs_plain (Calls.spliced_cons (bG (he pins s1 σ H1 _ I1 q1) λiv s2⟨y,H2,I2,ry,q2⟩=>Calls.spliced_cons (bG (hf pins s2 σ H2 _ I2 q2) λfv s3⟨z,H3,I3,rz,k,ey,q3⟩=>Calls.spliced_nil ?_))));subst ey;obtain⟨t,rfl⟩:=ry;exact Lf T I3 rz λw' r=>⟨_,H3,I3.tok _,r,q3⟩
theorem yc:∀(bs:List Addr),Vals (bs.map V.ref) (bs.map Value.ref)|[]=> .nil|b::bs=> .cons rfl (yc bs)
theorem vz{K:PySem.W.Frag}{a:Addr}{d:Option Addr}{aI:Array Value}{n:Nat}{sl:Array (Option Value)}(bs:List Addr)(h:K.lookup a=some ⟨.type "tuple",d, .seq aI n,sl⟩)(e:aI.toList=bs.map Value.ref)(hl:bs.length<=100:=by decide):wu K a (bs.map V.ref):=by refine⟨_,aI,n,h,rfl,rfl,?_,by rw[e];exact yc bs⟩;have h2:=congrArg List.length e;rw[Array.length_toList,List.length_map]at h2;rw[h2];exact Nat.le_trans hl (by decide)
theorem OO{K:PySem.W.Frag}{a:Addr}{es:Array DictEntry}{ep:Nat}(ks:List Str)(as:List Addr)(sy:(a==sysModules)=false)(lk:K.lookup a=some ⟨.type "dict",none, .dict es ep,#[]⟩)(c:eP es.toList ks=true)(rf:refsOf es.toList=as):jE K a ((ks.zip as).map λp=>(p.1,V.ref p.2)):=by refine⟨sy,_,es,ep,lk,⟨rfl,rfl,rfl⟩,rfl,?_⟩;have h:=yd c;rw[rf]at h;exact h
end L3
end
section
namespace L3
open PySem PySem.Spec PyProof.Rows L2 KM
mutual noncomputable def VI:D->PyData| .ba=> .none| .bl b=> .bool b| .int i=> .int i| .str x=> .str x| .tup ds=> .tuple (Ti ds)noncomputable def Ti:List D->List PyData|[]=>[]|d::ds=>VI d::Ti ds end
mutual theorem BQ:∀d:D,(VI d).depth<=depth d| .ba=>Nat.zero_le _| .bl _=>Nat.zero_le _| .int _=>Nat.zero_le _| .str _=>Nat.zero_le _| .tup ds=>by show PyData.depthAll (Ti ds)+1<=1+az ds;have :=xH ds;omega theorem xH:∀ds:List D,PyData.depthAll (Ti ds)<=az ds|[]=>Nat.zero_le _|d::ds=>by show max (VI d).depth (PyData.depthAll (Ti ds))<=max (depth d) (az ds);have h1:=BQ d;have h2:=xH ds;omega end
section
variable{X:Cx}{pins:List (Addr×Obj)}{σ:L2.St}{H:Hp}{s:Shared}
end
mutual noncomputable def zw:D->Bool| .ba=>true| .bl _=>false| .int _=>true| .str x=>(PyData.str x).canLay0| .tup ds=>OQ ds noncomputable def OQ:List D->Bool|[]=>true|d::ds=>zw d&&OQ ds end
mutual theorem EJ:∀d:D,zw d=true->(VI d).canLay0=true| .ba,_=>rfl| .bl _,h=>by cases h| .int _,_=>rfl| .str x,h=>h| .tup ds,h=>Cu ds h theorem Cu:∀ds:List D,OQ ds=true->PyData.canLayAll0 (Ti ds)=true|[],_=>rfl|d::ds,h=>by have h:(zw d&&OQ ds)=true:=h;rw[Bool.and_eq_true]at h;show((VI d).canLay0&&PyData.canLayAll0 (Ti ds))=true;rw[EJ d h.1,Cu ds h.2];rfl end
theorem shp{d:D}(h:zw d=true)(hd:depth d<=60):SeqAt.shaped (VI d)=true:=by unfold SeqAt.shaped;rw[EJ d h,Bool.true_and];exact decide_eq_true (Nat.le_trans (BQ d) (by omega))
end L3
end
section
namespace L3
open PySem PySem.Spec PyProof.Rows L2 KM
end L3
end
section
namespace L3
open PySem PySem.Spec PyProof.Rows L2 KM
section
variable{P:Program}{w:World}
open SeqAt MeetsSeq3 in open SeqAt MeetsSeq3 in end
section
variable{X:Cx}
end
end L3
end
section
set_option maxHeartbeats 2000000
namespace K26
open PySem L2 L3 KM PyProof.Rows
seal L2.PE L2.PS L2.eM L2.PT L2.PW L2.PA L2.PG L2.kW L2.PI L2.PC L2.PO L2.nj L2.PK L3.lr
variable{P:Program}{w:World}{K:PySem.W.Frag}{mg:Str->Option Value}{base:Heap}{t:jo}
noncomputable def CC:D->Str| .tup (.str x::_)=>x|_=>""
noncomputable def Ho(inb:Str->Bool):D->V| .str y=>if inb y=true then .str "name"else .ba|_=> .ba
noncomputable def me(inb:Str->Bool)(x:Str)(ps:List D):V:=if x="name"then Ho inb ((ps[0]?).getD .ba)else if x="app"then(if CC ((ps[0]?).getD .ba)="fun"then .str "fun"else .ba)else if x="carry"then(if CC ((ps[2]?).getD .ba)="like"then .str "like"else .ba)else if x="first"then(if CC ((ps[0]?).getD .ba)="pair"then .str "first"else .ba)else if x="second"then(if CC ((ps[0]?).getD .ba)="pair"then .str "second"else .ba)else if x="rec"then(if CC ((ps[3]?).getD .ba)="zero"then .str "zero"else if CC ((ps[3]?).getD .ba)="next"then .str "next"else .ba)else .ba
noncomputable def cR(inb:Str->Bool):D->V| .tup (.str x::ps)=>me inb x ps|_=> .ba
theorem KY{nm:D->Bool}:∀{cs:List Nat}{ps:List D}{i c:Nat},gX nm cs ps=true->cs[i]?=some c->∃p,ps[i]?=some p/\fj nm c p=true|[],[],_,_,_,e=>by simp at e|[],_::_,_,_,h,_=>by simp[gX]at h|_::_,[],_,_,h,_=>by simp[gX]at h|a::cs,p::ps,0,c,h,e=>by simp at e;subst e;rw[aT,Bool.and_eq_true]at h;exact⟨p,rfl,h.1⟩|a::cs,p::ps,i+1,c,h,e=>by rw[aT,Bool.and_eq_true]at h;obtain⟨c,h1,h2⟩:=KY (i:=i) h.2 (by simpa using e);exact⟨c,by simpa using h1,h2⟩
theorem part_of{k:Bool}{x s:Str}{ps:List D}(h:bU aP k (.tup (.str x::ps))=true)(hs:dP x= .str s){i:Nat}(hi:s.cps.toList[i]?=some 116):∃p,ps[i]?=some p/\bU aP false p=true:=by obtain⟨s',e1,_,e3,_⟩:=cx h;rw[hs]at e1;cases e1;obtain⟨p,h1,h2⟩:=KY e3 hi;exact⟨p,h1,by simpa[fj]using h2⟩
theorem UK{H:Hp}{k:Bool}{p:D}{u:V}(h:bU aP k p=true)(r:Rep H p u):∃(c:Addr)(us:List V),u= .ref c/\H c=some (.tup (.str (CC p)::us)):=by obtain⟨x,ps,rfl⟩:=sf h;obtain⟨c,vs,rfl,hc,v0,us,rfl,⟨rfl,_⟩,_⟩:=r;exact⟨c,us,rfl,hc⟩
theorem NR{H:Hp}{k:Bool}{x s:Str}{ps:List D}{us:List V}(h:bU aP k (.tup (.str x::ps))=true)(r:bu H ps us)(hs:dP x= .str s){i:Nat}(hi:s.cps.toList[i]?=some 116):∃(c:Addr)(ws:List V),zK (V.str x::us) ((i+1:Nat):Int)=some (.ref c)/\H c=some (.tup (.str (CC ((ps[i]?).getD .ba))::ws)):=by obtain⟨p,h1,h2⟩:=part_of h hs hi;obtain⟨u,hu,ru⟩:=r.get h1;obtain⟨c,ws,rfl,hc⟩:=UK h2 ru;refine⟨c,ws,aF (by simpa using hu),?_⟩;rw[h1];exact hc
noncomputable def iR(aC:List (Key×V))(x:Str):Bool:=(dG aC (Sum.inr x:Key)).isSome
noncomputable def vJ:Sp:=λvs H Q _=>∃(d:D)(v:V)(b:Addr)(aC:List (Key×V)),vs=[v, .ref b]/\Rep H d v/\Wf d/\H b=some (.dK aC)/\∀H',aA H H'->Q (cR (iR aC) d) H'
theorem Jr{k:Bool}{ps:List D}(h:bU aP k (.tup (.str "name"::ps))=true):∃y,ps=[.str y]:=by
 obtain⟨s',e1,_,e3,_⟩:=cx h;rw[e8]at e1;cases e1;rw[E3]at e3;match ps,e3 with
  |[],e3=>simp[gX]at e3
  |[p],e3=>
   rw[aT,Bool.and_eq_true]at e3;have :aP p=true:=by simpa[fj]using e3.1
   cases p with|str y=>exact⟨y,rfl⟩|_=>simp[aP]at this
  |p::q::r,e3=>rw[aT,Bool.and_eq_true]at e3;have :=e3.2;simp[gX]at this
noncomputable def Rul(K:PySem.W.Frag)(r:Addr):Prop:=∃a1 a2 a3 a4 a5 b1 b2 b3 b4 b5 b6:Addr,jE K r [("app", .ref a1),("rec", .ref a2),("carry", .ref a3),("first", .ref a4),("second", .ref a5)]/\wu K a1 [.ref b1]/\wu K b1 [.int 1, .str "fun", .str "fun"]/\wu K a2 [.ref b2, .ref b3]/\wu K b2 [.int 4, .str "zero", .str "zero"]/\wu K b3 [.int 4, .str "next", .str "next"]/\wu K a3 [.ref b4]/\wu K b4 [.int 3, .str "like", .str "like"]/\wu K a4 [.ref b5]/\wu K b5 [.int 1, .str "pair", .str "first"]/\wu K a5 [.ref b6]/\wu K b6 [.int 1, .str "pair", .str "second"]
theorem abk(v1 v2 v3 v4 v5:V)(x:Str):KTD.datumAt x [(("app":Str),v1),("rec",v2),("carry",v3),("first",v4),("second",v5)]=if x="app"then some v1 else if x="rec"then some v2 else if x="carry"then some v3 else if x="first"then some v4 else if x="second"then some v5 else none:=by simp only[KTD.datumAt,decide_eq_true_eq]
noncomputable abbrev Rw:=Nat×Str×Str
noncomputable def wF(ps:List D)(r:Rw):Bool:=decide (CC ((ps[r.1]?).getD .ba)=r.2.1)
noncomputable def dY(ps:List D):List Rw->V|[]=> .ba|r::rs=>if wF ps r=true then .str r.2.2 else dY ps rs
theorem iH{ps:List D}:∀{rows:List Rw}{i:Nat},(∀r∈rows.take i,wF ps r=false)->dY ps rows=dY ps (rows.drop i)|rows,0,_=>rfl|[],i+1,_=>rfl|r::rs,i+1,h=>by have h0:=h r (by simp);rw[dY,if_neg (by rw[h0];decide),List.drop_succ_cons];exact iH λr hr=>h r (by rw[List.take_succ_cons];exact List.mem_cons_of_mem _ hr)
theorem gy:aK ["thing","book","part","word","rule"] ["thing","book"] (ae iT):=⟨rfl,rfl,rfl,by decide+kernel,rfl,by decide+kernel,by decide+kernel⟩
theorem IW(D:Df K mg "rule_of" iT ["thing","book"])(M:Mg mg t)(T:Rul K t.Hc):bI P w K mg b_ "rule_of" (1) ["thing","book"] vJ:=by
 refine D.ok gy (λvs H Q E h=>?_) (λbase f cM A outer s H vs Q E hr h=>?_);·obtain⟨d,v,b,aC,rfl,_⟩:=h;rfl
 obtain⟨d,v,b,aC,rfl,r,wf,hb,q⟩:=h;have hu:=N5 hr;obtain⟨x,ps,k,rfl,wfk,G7⟩:=mD wf;obtain⟨a,J5,rfl,ha,v0,us,rfl,⟨rfl,hx⟩,rp⟩:=id r;have ea:zK (V.str x::us) 0=some (.str x):=aF (j:=0) rfl;obtain⟨a1,a2,a3,a4,a5,b1,b2,b3,b4,b5,b6,TT,s1,s2,s3,s4,s5,s6,s7,s8,s9,HS,N_⟩:=T;refine⟨_,(ah (bB (aG cj (aW aR (pv 0) aj (λ_ _=>rfl)) ar (aM _)) (aq (aB (ic (SM (Sm hu (aW aR (pv 0) aj (λ_ _=>rfl)) (pv 1))) ar jD))) aN) (ah (fJ PassesOwn.never rfl (DH (Kd (bW M.g_RULES rfl) (aW aR (pv 0) aj (λ_ _=>rfl)) (ay af) ⟨rfl,rfl,rfl,rfl⟩)) (ve (n:=3) rfl (cz (bA (i:=2) gy.nd rfl (by first|exact Or.inl rfl|exact Or.inr rfl)) (cz (bA (i:=3) gy.nd rfl (by first|exact Or.inl rfl|exact Or.inr rfl)) (cz (bA (i:=4) gy.nd rfl (by first|exact Or.inl rfl|exact Or.inr rfl)) jQ)))) (aq (bB (aG cj (aW aR (aW aR (pv 0) (pv 2) (λ_ _=>rfl)) aj (λ_ _=>rfl)) (pv 3) (aM _)) (aq (aB (pv 4))) aN))) (aq (aB jD)))),?_⟩;try dsimp only[jb,c_]
 refine Dk ?_;intro _ _ _;refine⟨_,rfl,a,_,_,_,rfl,rfl,bN.of ha,ea,rfl,_,rfl,?_⟩;refine aZ (λc=>?_) (λc=>?_);·have c:V.str x=V.str "name":=of_decide_eq_true c;cases c;obtain⟨y,rfl⟩:=Jr wfk;obtain⟨u,us',rfl,⟨rfl,_⟩,ru⟩:=rp;cases(show us'=[]from ru);have eq1:cR (iR aC) (.tup [.str "name", .str y])=if iR aC y=true then .str "name"else .ba:=rfl;rw[eq1]at q;have qq:=q H (aA.refl H);refine⟨_,rfl,a,_,_, .str y,rfl,rfl,bN.of ha,aF (j:=1) rfl,_,rfl,b,_,rfl,Cq.k (k:=Sum.inr y) hb,_,rfl,?_⟩;show if iR aC y=true then _ else _;cases Nh:iR aC y with|true=>rw[Nh]at qq;exact qq|false=>rw[Nh]at qq;exact qq
 have nn:x≠"name":=λz=>c (by rw[z];decide+kernel);refine⟨t.Hc,_,rfl,TT,_,rfl,a,_,_,_,rfl,rfl,bN.of ha,ea,(by show 0<=sizeLine;decide),λp0 TJ=>⟨x,rfl,?_⟩⟩;have t0:=ag TJ (.tup []);have h0:(upd H p0 (.tup [])) p0=some (.tup []):=av;have rp0:=rp.mono t0;have Xa:=t0 _ _ ha;generalize upd H p0 (.tup [])=H0 at t0 h0 rp0 Xa⊢;rw[abk];have key:∃(c:Addr)(rows:List Rw)(bs:List V),(if x="app"then some (V.ref a1)else if x="rec"then some (.ref a2)else if x="carry"then some (.ref a3)else if x="first"then some (.ref a4)else if x="second"then some (.ref a5)else none).getD (.ref p0)= .ref c/\(∀H1,aA H0 H1->bN K H1 c bs)/\bs.length=rows.length/\(∀(i:Nat)(r:Rw),rows[i]?=some r->∃b':Addr,bs[i]?=some (V.ref b')/\wu K b' [.int ((r.1+1:Nat):Int), .str r.2.1, .str r.2.2])/\(∀r∈rows,∃s',dP x= .str s'/\s'.cps.toList[r.1]?=some 116)/\me (iR aC) x ps=dY ps rows:=by
  have one:∀(r:Rw)(b':Addr),wu K b' [.int ((r.1+1:Nat):Int), .str r.2.1, .str r.2.2]->∀(i:Nat)(r':Rw),[r][i]?=some r'->∃b'',[V.ref b'][i]?=some (.ref b'')/\wu K b'' [.int ((r'.1+1:Nat):Int), .str r'.2.1, .str r'.2.2]:=λr b' h i r' e=>by match i,e with|0,e=>cases e;exact⟨b',rfl,h⟩|i+1,e=>simp at e
  unfold me;rw[if_neg nn];by_cases e1:x="app"
  ·subst e1;refine⟨a1,[(0,"fun","fun")],[.ref b1],by simp,λH1 _=> .inr s1,rfl,one _ _ s2,λr hr=>?_,?_⟩;·rw[List.mem_singleton.mp hr];exact⟨"tt",by decide+kernel,by decide+kernel⟩
   ·simp[dY,wF]
  by_cases e2:x="rec"
  ·subst e2;refine⟨a2,[(3,"zero","zero"),(3,"next","next")],[.ref b2, .ref b3],by simp[e1],λH1 _=> .inr s3,rfl,λi r e=>?_,λr hr=>?_,?_⟩;·match i,e with|0,e=>cases e;exact⟨b2,rfl,s4⟩|1,e=>cases e;exact⟨b3,rfl,s5⟩|i+2,e=>simp at e
   ·have V2:r.1=3:=by simp only[List.mem_cons,List.not_mem_nil,or_false]at hr;rcases hr with rfl|rfl<;>rfl
    rw[V2];exact⟨"kttt",by decide+kernel,by decide+kernel⟩
   ·have n1:(Str.ofString "rec")≠Str.ofString "carry":=by decide+kernel
    have n2:(Str.ofString "rec")≠Str.ofString "first":=by decide+kernel
    have n3:(Str.ofString "rec")≠Str.ofString "second":=by decide+kernel
    rw[if_neg e1,if_neg n1,if_neg n2,if_neg n3,if_pos rfl];simp[dY,wF]
  by_cases e3:x="carry"
  ·subst e3;refine⟨a3,[(2,"like","like")],[.ref b4],by simp[e1,e2],λH1 _=> .inr s6,rfl,one _ _ s7,λr hr=>?_,?_⟩;·rw[List.mem_singleton.mp hr];exact⟨"ktt",by decide+kernel,by decide+kernel⟩
   ·simp[dY,wF,e1]
  by_cases e4:x="first"
  ·subst e4;refine⟨a4,[(0,"pair","first")],[.ref b5],by simp[e1,e2,e3],λH1 _=> .inr s8,rfl,one _ _ s9,λr hr=>?_,?_⟩;·rw[List.mem_singleton.mp hr];exact⟨"t",by decide+kernel,by decide+kernel⟩
   ·simp[dY,wF,e1,e3]
  by_cases e5:x="second"
  ·subst e5;refine⟨a5,[(0,"pair","second")],[.ref b6],by simp[e1,e2,e3,e4],λH1 _=> .inr HS,rfl,one _ _ N_,λr hr=>?_,?_⟩;·rw[List.mem_singleton.mp hr];exact⟨"t",by decide+kernel,by decide+kernel⟩
   ·simp[dY,wF,e1,e3,e4]
  ·exact⟨p0,[],[],by simp[e1,e2,e3,e4,e5],λH1 hs=>bN.of (hs _ _ h0),rfl,(λi r e=>by simp at e),(λr hr=>absurd hr (by simp)),(by simp[dY,e1,e2,e3,e4,e5])⟩
 obtain⟨c,rows,bs,ec,hc,hl,R1,aaD,RU⟩:=key;rw[ec];refine⟨c,rfl,⟨bs,hc H0 (aA.refl _)⟩,?_⟩;let CF:Nat->L2.St->Hp->Prop:=(λi aY H'=>∃(pv wv rv:Option V),aY=[some (.ref a),some (.ref b),pv,wv,rv]/\(∀r∈rows.take i,wF ps r=false)/\H'=H0);refine iC bs.length CF ?_ ?_ ?_;·exact⟨none,none,none,rfl,λr hr=>by simp at hr,rfl⟩
 ·rintro i aY H1 hi⟨pv',wv,rv,rfl,V6,rfl⟩;obtain⟨r',Ri⟩:∃r,rows[i]?=some r:=⟨_,List.getElem?_eq_getElem (by omega)⟩;obtain⟨b',Oa,sb'⟩:=R1 i r' Ri;refine⟨⟨bs,_,hc _ (aA.refl _),Oa⟩,?_⟩;rintro x' H2⟨rfl,hy⟩;have hy:=hy bs (hc _ (aA.refl _));rw[Oa]at hy;cases hy;obtain⟨s',ks,ki⟩:=aaD r' (List.mem_of_getElem? Ri);obtain⟨c0,ws,Vz,hc0⟩:=NR wfk rp0 ks ki;refine⟨b',_,rfl, .inr sb',rfl,_,_,rfl,_,_,rfl,_,_,rfl,rfl,?_⟩;refine⟨_,rfl,_,rfl,a,_,_, .ref c0,rfl,rfl,bN.of Xa,Vz,c0,_,_,_,rfl,rfl,bN.of hc0,aF (j:=0) rfl,_,rfl,rfl,_,rfl,?_⟩;have hd:rows.drop i=r'::rows.drop (i+1):=by obtain⟨h,rfl⟩:=List.getElem?_eq_some_iff.mp Ri;exact List.drop_eq_getElem_cons h
  refine aZ (λch=>?_) (λch=>?_)
  ·have ch:V.str (CC ((ps[r'.1]?).getD .ba))=V.str r'.2.1:=of_decide_eq_true ch;injection ch with ch;have hit:wF ps r'=true:=decide_eq_true ch;refine⟨_,rfl,?_⟩;have er:cR (iR aC) (.tup (.str x::ps))= .str r'.2.2:=by show me (iR aC) x ps=_;rw[RU,iH V6,hd,dY,if_pos hit]
   have qq:=q _ t0;rw[er]at qq;exact qq
  ·have hit:wF ps r'=false:=decide_eq_false λz=>ch (by rw[z];exact decide_eq_true rfl);refine⟨_,_,_,rfl,λr hr=>?_,rfl⟩;rw[List.take_add_one,Ri]at hr;rcases List.mem_append.mp hr with hr|hr;·exact V6 r hr
   ·have :r=r':=by simpa using hr
    rw[this];exact hit
 ·rintro aY H1⟨pv',wv,rv,rfl,V6,rfl⟩;refine⟨⟨bs,hc _ (aA.refl _),Nat.le_refl _⟩,?_⟩;have er:cR (iR aC) (.tup (.str x::ps))= .ba:=by show me (iR aC) x ps=_;rw[RU,iH V6,hl,List.drop_length,dY]
  have qq:=q _ t0;rw[er]at qq;exact qq
end K26
end
section
set_option maxHeartbeats 1000000
namespace K26
open PySem L2 L3 KM PyProof.Rows
seal L2.PE L2.PS L2.eM L2.PT L2.PW L2.PA L2.PG L2.kW L2.PI L2.PC L2.PO L2.nj L2.PK L3.lr L3.PH L3.PB
variable{P:Program}{w:World}{K:PySem.W.Frag}{mg:Str->Option Value}{base:Heap}{t:jo}
theorem BP{H:Hp}:∀{ds:List D}{vs:List V}{d:D}{v:V}(i:Nat),bu H ds vs->Rep H d v->bu H (ds.set i d) (vs.set i v)|[],_,_,_,_,r,_=>by have r:_=[]:=r;subst r;exact rfl|_::_,_,_,_,0,⟨v,r,e,q,t⟩,h=>by subst e;exact⟨_,_,rfl,h,t⟩|_::_,_,_,_,i+1,⟨v,r,e,q,t⟩,h=>by subst e;exact⟨_,_,rfl,q,BP i t h⟩
noncomputable def EF(C:Addr)(n:Nat):Sp:=λvs H Q E=>∃(d:D)(v:V)(pl:List Int)(pv:V)(e:D)(ev:V),vs=[v,pv,ev]/\Rep H d v/\Wf d/\Rep H (Qc pl) pv/\Rep H e ev/\pl.length<n/\(∀(u:V)(H':Hp),aA H H'->(goto d pl).isSome=true->Rep H' (putD d pl e) u->Q u H')/\(∀H',aA H H'->goto d pl=none->E (.ref C) none H')
theorem fI:aK ["thing","place","new","kid","kids"] ["thing","place","new"] (ae dI):=⟨rfl,rfl,rfl,by decide+kernel,rfl,by decide+kernel,by decide+kernel⟩
theorem wL{n:Nat}(D:Df K mg "changed_at" dI ["thing","place","new"])(M:Mg mg t)(fQ:bI P w K mg (eJ P w) "kid_at" (2) ["thing","number"] (rP t.bz))(bc:bI P w K mg b_ "kids_of" (1) ["thing"] eh)(cY:bI P w K mg b_ "rebuilt" (1) ["thing","kids"] fW)(gh:bI P w K mg (eJ P w) "changed_at" (n+3) ["thing","place","new"] (EF t.bz n)):bI P w K mg (eJ P w) "changed_at" (n+4) ["thing","place","new"] (EF t.bz (n+1)):=by
 refine D.MD fI (λvs H Q E h=>?_) (λbase f cM A outer s H vs Q E hr h=>?_);·obtain⟨d,v,pl,pv,e,ev,rfl,_⟩:=h;rfl
 obtain⟨d,v,pl,pv,e,ev,rfl,r,wf,rp,re,hn,q,qe⟩:=h;obtain⟨x,ps,k,rfl,wfk,G7⟩:=mD wf;obtain⟨a,ws,rfl,ha,uX⟩:=id rp;have lw:=uX.length;rw[List.length_map]at lw;refine⟨_,(ah (bB (aG cj (bg bo rfl M.gf eA (aa (pv 1) af)) aj (aM _)) (aq (aB (pv 2))) aN) (ah (aD (i:=3) fI.nd rfl (by first|exact Or.inl rfl|exact Or.inr rfl) (aO fQ (hr.mono (by omega)) rfl cq (aa (pv 0) (aa (aW aR (pv 1) aj (λ_ _=>rfl)) af)))) (ah (aD (i:=4) fI.nd rfl (by first|exact Or.inl rfl|exact Or.inr rfl) (aO bc (hr.mono (by omega)) rfl aU (aa (pv 0) af))) (ah (C3 (aO gh (hr.mono (by omega)) rfl cq (aa (pv 3) (aa (ik EV (pv 1) (gI aj) eS) (aa (pv 2) af)))) (Mc (pv 4) (aW aR (pv 1) aj (λ_ _=>rfl)) set_list)) (aq (aB (aO cY (hr.mono (by omega)) rfl aU (aa (pv 0) (aa (pv 4) af))))))))),?_⟩;try dsimp only[jb,c_]
 refine OM ?_;intro _ _ _ _ _;refine⟨_,rfl,a,_,rfl, .inr (bN.of ha),rfl,_,rfl,?_⟩;refine aZ (λc=>?_) (λc=>?_);·have c:V.int ((ws.length:Nat):Int)=V.int 0:=of_decide_eq_true c;injection c with c;have hp:pl=[]:=List.length_eq_zero_iff.mp (by omega);subst hp;exact⟨_,rfl,q ev H (aA.refl H) rfl re⟩
 have yQ:pl≠[]:=λz=>c (by subst z;have :ws.length=0:=lw;rw[this];exact decide_eq_true rfl);obtain⟨i,is,rfl⟩:∃i is,pl=i::is:=by cases pl with|nil=>exact absurd rfl yQ|cons i is=>exact⟨i,is,rfl⟩
 obtain⟨u0,ws',rfl,QI,abK⟩:=uX;have QI:u0=V.int i:=QI;subst QI;have ea:zK (V.int i::ws') 0=some (.int i):=aF (j:=0) rfl;refine⟨_,rfl,_,rfl,a,_,_,_,rfl,rfl,bN.of ha,ea,_,v,i,rfl,r,wf,λp u H1 s1 ek ru=>?_,λH1 s1 ek=>qe H1 s1 (xK ek)⟩;obtain⟨i0,hx,hp⟩:=xZ ek;refine⟨_,rfl,x,ps,v,rfl,r.mono s1,G7,λp2 us H2 Ck s2 h2 r2=>?_⟩;have l2:=r2.length;have hk:aH x ps=ps:=by unfold aH;rw[hx];rfl
 rw[hk]at r2 l2;have CB:=s1.trans s2;refine⟨_,rfl,_,rfl,_,rfl,a,_,rfl,CB _ _ ha,λb1 H3 s3 h3=>?_⟩;have h3:H3 b1=some (.tup ws'):=by have z:=lP (V.int i::ws') 1;rw[show((1:Nat):Int)=1 from rfl]at z;rw[z]at h3;exact h3
 have mY:=CB.trans s3;refine⟨_,rfl,p,u,is, .ref b1,e,ev,rfl,ru.mono (s2.trans s3),AZ wf ek,⟨b1,ws',rfl,h3,abK.mono mY⟩,re.mono mY,(by rw[List.length_cons]at hn;omega),λu2 H4 s4 hg r4=>?_,λH4 s4 hg=>qe H4 (mY.trans s4) (by rw[fV ek];exact hg)⟩;have hl:i.toNat<us.length:=by have :=(List.getElem?_eq_some_iff.mp hp).1;omega
 have wV:=mY.trans s4;refine⟨_,rfl,_,rfl,a,_,_,_,rfl,rfl,bN.of (wV _ _ ha),ea,p2,us,_,i.toNat,rfl,rfl,(s3.trans s4) _ _ h2,?_,?_⟩;·unfold QU;rw[if_pos (by omega),if_pos (by omega)]
 have h24:=(s3.trans s4) _ _ h2;have hf:H p2=none:=s1.free Ck;have s5:aA H (upd H4 p2 (.lst (us.set i.toNat u2))):=iy wV hf;refine⟨_,rfl,_,rfl,x,ps,ps.set i.toNat (putD p is e),v,p2,_,rfl,r.mono s5,av,(BP i.toNat (r2.mono (s3.trans s4)) r4).w_ h24,(by rw[List.length_set];exact G7),λu5 H6 s6 r6=>?_⟩;refine q u5 H6 (s5.trans s6) (by rw[fV ek];exact hg) ?_;rw[u9 ek];have abQ:ps.set i.toNat (putD p is e)≠[]:=λz=>by have :=congrArg List.length z;rw[List.length_set]at this;have :ps.length=0:=this;omega
 unfold fg at r6;rw[if_neg abQ]at r6;exact r6
theorem jZ(D:Df K mg "changed_at" dI ["thing","place","new"])(M:Mg mg t)(fQ:bI P w K mg (eJ P w) "kid_at" (2) ["thing","number"] (rP t.bz))(bc:bI P w K mg b_ "kids_of" (1) ["thing"] eh)(cY:bI P w K mg b_ "rebuilt" (1) ["thing","kids"] fW):∀n:Nat,bI P w K mg (eJ P w) "changed_at" (n+3) ["thing","place","new"] (EF t.bz n)|0=>bI.never D λvs H Q E⟨d,v,pl,pv,e,ev,_,_,_,_,_,h,_⟩=>absurd h (Nat.not_lt_zero _)|n+1=>wL D M fQ bc cY (jZ D M fQ bc cY n)
noncomputable def QR(C G:Addr)(n:Nat):Sp:=λvs H Q E=>∃(d:D)(v:V)(pl:List Int)(pv:V)(e:D)(ev:V),vs=[v,pv,ev]/\Rep H d v/\Wf d/\Rep H (Qc pl) pv/\Rep H e ev/\pl.length<100/\((goto d pl).isSome=true->Rz (putD d pl e) n)/\(∀(u:V)(H':Hp),aA H H'->(goto d pl).isSome=true->(cE (putD d pl e)||c8 (putD d pl e))=false->Rep H' (putD d pl e) u->Q u H')/\(∀H',aA H H'->goto d pl=none->E (.ref C) none H')/\(∀H',aA H H'->(goto d pl).isSome=true->(cE (putD d pl e)||c8 (putD d pl e))=true->E (.ref G) none H')
theorem CQ:aK ["thing","place","new"] ["thing","place","new"] (ae iU):=⟨rfl,rfl,rfl,by decide+kernel,rfl,by decide+kernel,by decide+kernel⟩
theorem Jl{n:Nat}(D:Df K mg "with_at" iU ["thing","place","new"])(M:Mg mg t)(hn:99<=n)(gh:bI P w K mg (eJ P w) "changed_at" (103) ["thing","place","new"] (EF t.bz 100))(lO:bI P w K mg (eJ P w) "bounded" (n+4) ["thing"] (lE t.br n)):bI P w K mg (eJ P w) "with_at" (n+5) ["thing","place","new"] (QR t.bz t.br n):=by
 refine D.MD CQ (λvs H Q E h=>?_) (λbase f cM A outer s H vs Q E hr h=>?_);·obtain⟨d,v,pl,pw,e,ev,rfl,_⟩:=h;rfl
 obtain⟨d,v,pl,pw,e,ev,rfl,r,wf,rp,re,hl,rz,q,qe,qg⟩:=h;refine⟨_,(aq (aB (aO lO (hr.mono (by omega)) rfl cq (aa (aO gh (hr.mono (by omega)) rfl cq (aa (pv 0) (aa (pv 1) (aa (pv 2) af)))) af)))),?_⟩;try dsimp only[jb,c_]
 refine⟨_,rfl,_,rfl,_,rfl,d,v,pl,pw,e,ev,rfl,r,wf,rp,re,hl,λu H1 s1 hg r1=>?_,λH1 s1 hg=>qe H1 s1 hg⟩;exact⟨_,u,rfl,r1,rz hg,λH2 s2 hv=>q u H2 (s1.trans s2) hg hv (r1.mono s2),λH2 s2 hv=>qg H2 (s1.trans s2) hg hv⟩
end K26
end
section
namespace L3
open PySem PySem.Spec PyProof.Rows L2 KM
noncomputable abbrev gJ(qual:Str):HO:= .wx (.code qual)
structure fY(ps cs:List Str)(scope:Scope):Prop where
 kind:scope.kind= .function
 co:scope.isCoroutine=false
 gen:scope.isGenerator=false
 l9:∀x∈scope.names,x.2≠ .cell
 par:∀x∈ps,scope.names.lookup x=some .local
 nd:(ps++cs).Nodup
 free:∀x∈cs,scope.names.lookup x=some .free
 all:∀x,scope.names.lookup x=some .free->x∈cs
structure v_(h:Heap)(f c:Addr)(name qual:Str)(params:Arguments)(body:List Stmt)(scope:Scope)(cs:List Str)(ws:List V)(cl:List (Str×Addr))(doc pm ct:Value):Prop where
 fo:h.get? f=some {cls:= .type "function",data:= .func (PySem.W.fnX name qual params body scope cl .none .none doc pm none (.ref c) ct)}
 inj:∀x y a,cl.lookup x=some a->cl.lookup y=some a->x=y
 own:∀x a,cl.lookup x=some a->x∈cs
 cell:∀(i:Nat)(x:Str),cs[i]?=some x->∃(v:V)(a:Addr)(u:Value),ws[i]?=some v/\cl.lookup x=some a/\RelV v u/\h.IsCell a (some u)
 len:ws.length=cs.length
section
variable{h h':Heap}{f c:Addr}{name qual:Str}{params:Arguments}{body:List Stmt}{scope:Scope}{cs:List Str}{ws:List V}{cl:List (Str×Addr)}{doc pm ct:Value}
theorem v_.keeps(C:v_ h f c name qual params body scope cs ws cl doc pm ct)(k:∀b o,h.get? b=some o->h'.get? b=some o):v_ h' f c name qual params body scope cs ws cl doc pm ct:=⟨k _ _ C.fo,C.inj,C.own,λi x e=>let⟨v,a,u,h1,h2,h3,o,h4,h5⟩:=C.cell i x e;⟨v,a,u,h1,h2,h3,o,k _ _ h4,h5⟩,C.len⟩
end
noncomputable abbrev jq(qual:Str)(scope:Scope)(L f c:Addr)(cl:List (Str×Addr)):Env:=PySem.W.envX qual scope L f (.ref c) cl
noncomputable def Bj(CX:nH)(P:Program)(w:World)(K:PySem.W.Frag)(mg:Str->Option Value)(base:Heap)(N:List Str)(qual:Str)(scope:Scope)(f c:Addr)(cl:List (Str×Addr))(A:Around)(outer:List Env)(s:Shared)(H:Hp)(E:XK):Cx where prog:=P;w:=w;K:=K;mg:=mg;base:=base;A:=A.deeper (jq qual scope s.heap.objs.size f c cl);N:=N;bO:=s;H₀:=H;env:=jq qual scope s.heap.objs.size f c cl;outer:=outer;stack:=jq qual scope s.heap.objs.size f c cl::outer;ex:=[];calm:=true;fn:=λ_=>false;pn:=[];xe:=λe s'=>wpAny (model P w) (A.deeper (jq qual scope s.heap.objs.size f c cl)) (leaving (jq qual scope s.heap.objs.size f c cl) e) (λ_ Te=>CX A.handled outer H s E e Te) (λe' Te=>CX A.handled outer H s E e' Te) s'
theorem vi{β:Type}:∀{l:List (Str×β)}{x:Str}{v:β},(l.map (·.1)).Nodup->(x,v)∈l->l.lookup x=some v
 |[],_,_,_,h=>by cases h
 |(y,w)::l,x,v,nd,h=>by
  rw[List.map_cons,List.nodup_cons]at nd;rw[List.lookup_cons];rcases List.mem_cons.mp h with e|h;·cases e;simp
  ·have yQ:x≠y:=λz=>nd.1 (by rw[<-z];exact List.mem_map.mpr ⟨(x,v),h,rfl⟩);have :(x==y)=false:=by simpa using yQ
   rw[this];exact vi nd.2 h
theorem xR:∀{ps:List Str}(us:List Value),ps.Nodup->((ps.zip us).map (·.1)).Nodup|[],us,_=>by simp|p::ps,[],_=>by simp|p::ps,u::us,nd=>by rw[List.nodup_cons]at nd;rw[List.zip_cons_cons,List.map_cons,List.nodup_cons];refine⟨λh=>nd.1 ?_,xR us nd.2⟩;obtain⟨⟨a,b⟩,hm,e⟩:=List.mem_map.mp h;cases e;exact(List.of_mem_zip hm).1
theorem LV{ps:List Str}{us:List Value}(nd:ps.Nodup){i:Nat}{x:Str}{u:Value}(h1:ps[i]?=some x)(h2:us[i]?=some u):(ps.zip us).reverse.lookup x=some u:=by have hm:(x,u)∈(ps.zip us).reverse:=List.mem_reverse.mpr (List.mem_of_getElem? (i:=i) (by rw[List.getElem?_zip_eq_some];exact⟨h1,h2⟩));refine vi ?_ hm;have hz:((ps.zip us).map (·.1)).Nodup:=xR us nd;rw[List.map_reverse];exact(List.reverse_perm _).nodup_iff.mpr hz
theorem OS{CX:nH}{P:Program}{w:World}{K:PySem.W.Frag}{mg:Str->Option Value}{base:Heap}{ps cs:List Str}{name qual:Str}{params:Arguments}{body:List Stmt}{scope:Scope}{f c:Addr}{cl:List (Str×Addr)}{doc pm ct:Value}{A:Around}{outer:List Env}{s:Shared}{H:Hp}{E:XK}{us:List Value}{vs ws:List V}{h1:Heap}{t1:Nat}(S:fY ps cs scope)(e0:Bh P w K mg base A outer s H)(C:v_ base f c name qual params body scope cs ws cl doc pm ct)(hl:vs.length=ps.length)(r:Vals vs us)(CT:h1.Ns s.heap.objs.size (λx=>(ps.zip us).reverse.lookup x))(hk:∀b o,s.heap.get? b=some o->h1.get? b=some o):Inv (Bj CX P w K mg base (ps++cs) qual scope f c cl A outer s H E) [] (vs.map some++ws.map some) H {s with heap:=h1,toks:=t1}:=by
 have TV:∀b:Addr,b∉(Bj CX P w K mg base (ps++cs) qual scope f c cl A outer s H E).ex:=λb z=>absurd (show b∈([]:List Addr)from z) (by simp);have cellOf:∀x a,cl.lookup x=some a->∃u,base.IsCell a (some u):=λx a e=>by obtain⟨i,hi⟩:=List.mem_iff_getElem?.mp (C.own x a e);obtain⟨v,a',u,_,e2,_,e4⟩:=C.cell i x hi;rw[e]at e2;cases e2;exact⟨u,e4⟩
 have up:∀{a:Addr}{v:Option Value},base.IsCell a v->h1.IsCell a v:=λ⟨o,ho,hd⟩=>⟨o,hk _ _ (e0.bs _ _ ho).1,hd⟩;refine⟨⟨e0.mod,S.kind,rfl,rfl,Nat.le_refl _,C.inj,λy hy=>?_,λy c z=>(by cases z),λ_=>e0.VP.toP,Around.frames_deeper e0.frames, .inr ⟨rfl,rfl⟩,λb z=>absurd z (TV b),e0.bs,e0.Cz,λb _ _=>TV b,λb z=>absurd z (TV b),e0.gL,e0.Oe⟩,rfl,e0.bare,Un.kept hk,⟨_,CT,λi y v Kb h2 h3=>?_⟩,λy a e=>?_,e0.bJ.fresh (Nat.le_refl _),λy a e=>?_,λp hp=>absurd (show p∈([]:List (Addr×Obj))from hp) (by simp),e0.bJ.kept hk,?_⟩
 ·have hy:scope.names.lookup y=some .cell\/scope.names.lookup y=some .free:=hy;rcases hy with hy|hy;·exact absurd rfl (S.l9 _ (PySem.mem_of_lookup hy))
  ·obtain⟨i,hi⟩:=List.mem_iff_getElem?.mp (S.all y hy);obtain⟨v,a,u,_,e2,_⟩:=C.cell i y hi;exact⟨a,e2⟩
 ·have Kb:(ps++cs)[i]?=some y:=Kb;by_cases hi:i<ps.length;·rw[List.getElem?_append_left hi]at Kb;rw[List.getElem?_append_left (by rw[List.length_map];omega),List.getElem?_map]at h2;obtain⟨v',Pm,e⟩:=Option.map_eq_some_iff.mp h2;cases e;obtain⟨u,hu,ru⟩:=r.get Pm;have nd:=(List.nodup_append.mp S.nd).1;exact⟨u,ru, .inl ⟨S.par y (List.mem_of_getElem? Kb),LV nd Kb hu⟩⟩
  ·rw[List.getElem?_append_right (by omega)]at Kb;rw[List.getElem?_append_right (by rw[List.length_map];omega),List.length_map,hl,List.getElem?_map]at h2;obtain⟨v',Pm,e⟩:=Option.map_eq_some_iff.mp h2;cases e;obtain⟨v2,a,u,e1,e2,e3,e4⟩:=C.cell _ y Kb;rw[Pm]at e1;cases e1;exact⟨u,e3, .inr ⟨.inr (S.free y (List.mem_of_getElem? Kb)),a,e2,up e4⟩⟩
 ·obtain⟨u,e4⟩:=cellOf y a e;exact⟨_,up e4⟩
 ·obtain⟨u,o,ho,_⟩:=cellOf y a e;exact(e0.bs _ _ ho).2
 ·show(vs.map some++ws.map some).length=(ps++cs).length;rw[List.length_append,List.length_append,List.length_map,List.length_map,hl,C.len]
theorem Ou{CX:nH}{P:Program}{w:World}{K:PySem.W.Frag}{mg:Str->Option Value}{base:Heap}{k:Nat}{ps cs:List Str}{name qual:Str}{params:Arguments}{body:List Stmt}{scope:Scope}{f c:Addr}{cl:List (Str×Addr)}{doc pm ct:Value}{A:Around}{outer:List Env}{s:Shared}{H:Hp}{Q:VK}{E:XK}{us:List Value}{vs ws:List V}(S:fY ps cs scope)(e0:Bh P w K mg base A outer s H)(hr:cI (k+1) A)(C:v_ base f c name qual params body scope cs ws cl doc pm ct)(hc:H c=some (gJ qual))(hl:vs.length=ps.length)(r:Vals vs us)(hb:BindsTo s (PySem.W.fnX name qual params body scope cl .none .none doc pm none (.ref c) ct) ⟨us,[]⟩ (ps.zip us))(eE:cI k (A.deeper (jq qual scope s.heap.objs.size f c cl))->∃t,eM (Bj CX P w K mg base (ps++cs) qual scope f c cl A outer s H E) body t/\t {nx:=λ_ H'=>Q .ba H',rt:=Q} (vs.map some++ws.map some) H):codeAny (model P w) A (.call (.ref f) ⟨us,[]⟩) (CR CX A.handled outer P w H s Q E) s:=by have lim:s.heap.NoLimit:=e0.mod.nolimit.keeps λb o e=>(e0.bs b o e).1;have DU:s.heap.CodeRec (.ref c) qual:=(show bV P w H s.heap c (gJ qual)from e0.bJ c _ hc);refine codeAny_call_def (fd:=PySem.W.fnX name qual params body scope cl .none .none doc pm none (.ref c) ct) (body:=body) (binds:=ps.zip us) hr.depth (e0.bs _ _ C.fo).1 rfl lim DU rfl hb S.l9 (λy hy=>S.par y.1 (List.of_mem_zip hy).1) (λh₁ CT hk=>?_) S.co S.gen S.kind;obtain⟨t,ht,hq⟩:=eE (hr.deeper _);have I:=OS (CX:=CX) (E:=E) (t1:=s.toks+(ps.zip us).length) S e0 C hl r CT hk;refine wpAny_mono (ht [] _ _ H _ I hq) (λfl s' hs=>?_) λe s' hs=>hs;have fin:∀{aY:L2.St}{H':Hp}{v:V}{u:Value},Inv (Bj CX P w K mg base (ps++cs) qual scope f c cl A outer s H E) [] aY H' s'->RelV v u->Q v H'->CE outer P w H s Q u s':=λ{aY H' v u}J rv q=>⟨v,H',J.os,J.bare,J.base,J.bJ,rv,q⟩;cases fl with|ret u=>obtain⟨v,aY,H',J,rv,q⟩:=hs;exact fin J rv q|next=>obtain⟨aY,H',J,q⟩:=hs;exact fin (v:=V.ba) (u:=Value.none) J rfl q|brk=>obtain⟨_,_,_,q⟩:=hs;exact False.elim q|cont=>obtain⟨_,_,_,q⟩:=hs;exact False.elim q
end L3
end
section
namespace L3
open PySem PySem.Spec PyProof.Rows L2 KM
noncomputable def jn(H:Hp)(T:Addr)(qual:Str)(pos:Pos):Prop:=H T=some (.wx (.tab qual (rawInt pos.line) (rawInt pos.col)))
theorem jn.mono{H H':Hp}{T:Addr}{qual:Str}{pos:Pos}(x:jn H T qual pos)(s:aA H H'):jn H' T qual pos:=s _ _ x
noncomputable def Gv(K:PySem.W.Frag)(cc T:Addr):Prop:=PySem.W.codeHdIn K cc T=true
theorem mC{K:PySem.W.Frag}{mg:Str->Option Value}{base h:Heap}{T:Addr}{ps:Array Value}(M:Mod K mg base)(k:∀b o,base.get? b=some o->h.get? b=some o)(hT:h.get? T=some (PySem.W.tabObj ps)):mainGlobals≠T/\h.BuiltinsAt mg T:=by
 obtain⟨bm,ob,b1,b2,b3,b4,b5,b6⟩:=M.bm;obtain⟨o,es,ep,e,hd,_⟩:=M.glob;have e:=k _ _ e;have b3:=k _ _ b3;refine⟨λq=>?_,bm,ob,b1,b2,λq=>?_,λq=>?_,b3,b4,b5,b6⟩;·rw[q,hT]at e;cases e;cases hd
 ·rw[q,e]at b3;cases b3;rw[hd]at b6;cases b6
 ·rw[q,hT]at b3;cases b3;cases b4
noncomputable abbrev yp(X:Cx)(f:Addr)(fo:Obj):Cx:={X with pn:=(f,fo)::X.pn}
section
variable{X:Cx}{pins:List (Addr×Obj)}{σ:L2.St}{H:Hp}{s:Shared}{f:Addr}{fo:Obj}
theorem MT{base:Heap}{pn pn':List (Addr×Obj)}{A:Around}(h:HBp base pn A)(hs:∀q∈pn,q∈pn'):HBp base pn' A:=by
 rcases h with h|⟨a,oe,vs,e1,e2,e3⟩;·exact .inl h
 ·exact .inr ⟨a,oe,vs,e1,e2.imp id (hs _),e3⟩
theorem YT(ok:X.Ok):(yp X f fo).Ok:=⟨ok.mod,ok.kind,ok.glob,ok.blt,ok.above,ok.inj,ok.has,ok.Po,λh=>MT (ok.hd h) λq hq=>List.mem_cons_of_mem _ hq,ok.frames,ok.Td,ok.Sd,ok.bs,ok.Cz,ok.xf,ok.Ah,ok.gL,ok.Oe⟩
theorem Yw(I:Inv X pins σ H s)(e:s.heap.get? f=some fo)(n1:H f=none)(n2:f≠X.env.locals)(n3:f∉X.fs)(n4:∀v,fo.data≠ .cell v):Inv (yp X f fo) pins σ H s:=by
 refine⟨YT I.ok,I.os,I.bare,I.base,I.loc,I.cell,I.free,I.dW,λp hp=>?_,I.bJ,I.len⟩;rcases List.mem_cons.mp (show p∈(f,fo)::(X.pn++pins)from hp)with z|z;·rw[z];exact⟨e,n1,n2,n3,n4⟩
 ·exact I.pin p z
theorem vT(ok:X.Ok)(I:Inv (yp X f fo) pins σ H s):Inv X pins σ H s:=⟨ok,I.os,I.bare,I.base,I.loc,I.cell,I.free,I.dW,λp hp=>I.pin p (List.mem_cons_of_mem _ hp),I.bJ,I.len⟩
theorem Wn(ok:X.Ok){D:Ends}{fl:Flow}(h:SP (yp X f fo) pins D fl s):SP X pins D fl s:=by cases fl with|next=>obtain⟨aY,H',I,q⟩:=h;exact⟨aY,H',vT ok I,q⟩|brk=>obtain⟨aY,H',I,q⟩:=h;exact⟨aY,H',vT ok I,q⟩|cont=>obtain⟨aY,H',I,q⟩:=h;exact⟨aY,H',vT ok I,q⟩|ret u=>obtain⟨v,aY,H',I,r,q⟩:=h;exact⟨v,aY,H',vT ok I,r,q⟩
end
noncomputable abbrev lZ(name qual:Str)(params:Arguments)(body:List Stmt)(scope:Scope)(cl:List (Str×Addr))(doc pm:Value)(c:Addr)(ct:Value):Obj:={cls:= .type "function",data:= .func (PySem.W.fnX name qual params body scope cl .none .none doc pm none (.ref c) ct)}
noncomputable def abB(i:Nat)(T:Addr)(qual:Str)(pos:Pos)(t:Addr->Addr->Value->Value->Value->TS):TS:=λD σ H=>jn H T qual pos/\∀(f c:Addr)(doc pm ct:Value)(H':Hp),aA H H'->H' c=some (gJ qual)->t f c doc pm ct D (σ.set i (some (.ref f))) H'
theorem XR{fs ex:List Addr}{H:Hp}{h h':Heap}{T c:Addr}{ps:ON}{o:HO}(hT:H T=some (.wx ps))(hc:H c=none)(hs:h.objs.size<=c)(k:∀b u,b≠T->h.get? b=some u->h'.get? b=some u)(hT':∃u,h'.get? T=some u):Un fs ex H (upd H c o) h h':=by
 have nT:∀b,H b=none->b≠T:=λb n z=>by rw[z,hT]at n;cases n
 refine⟨λb u q n _ _=>k b u (nT b n) q,λb u q n _ _=>⟨u.slots,k b u (nT b n) q⟩,λb u q n _=>?_,λb u q _=>?_,λb xs q=>?_,λb u xs q=>?_,λb ps' q=>?_⟩;·rw[aX (Nat.ne_of_lt (Nat.lt_of_lt_of_le (Heap.lt_size q) hs))];exact n
 ·by_cases z:b=T;·rw[z];exact hT'
  ·exact⟨u,k b u z q⟩
 all_goals rw[aX (aQ q hc)];exact q
theorem Ig{X:Cx}{i:Nat}{cc T:Addr}{name qual:Str}{params:Arguments}{body:List Stmt}{scope:Scope}{pos:Pos}{rest:List Stmt}{cl:List (Str×Addr)}{t:Addr->Addr->Value->Value->Value->TS}(NK:Gv X.K cc T)(DU:X.env.code= .ref cc)(hN:X.N.Nodup)(hi:X.N[i]?=some name)(hx:X.env.scope.names.lookup name=some .local)(hq:qualnameIn X.env name name=qual)(Ob:closureFor scope X.env=pure cl)(hr:∀(f c:Addr)(doc pm ct:Value),eM (yp X f (lZ name qual params body scope cl doc pm c ct)) rest (t f c doc pm ct))(hd0:params.defaults=[]:=by rfl)(hk0:params.kw_defaults=[]:=by rfl)(ha:annTrees params none X.env=[]:=by rfl):eM X (.FunctionDef name params body [] none [] scope none name pos::rest) (abB i T qual pos t):=by
 intro pins s σ H D I h;obtain⟨hT,h⟩:=h;have key:∀(f c:Addr)(doc pm ct:Value)(H':Hp)(s1:Shared),Inv X pins σ H' s1->s1.heap.get? f=some (lZ name qual params body scope cl doc pm c ct)->H' f=none->f≠X.env.locals->f∉X.fs->aA H H'->H' c=some (gJ qual)->wpAny (model X.prog X.w) X.A (storeName X.env name (.ref f)) (λ_ s2=>wpAny (model X.prog X.w) X.A (execs rest X.env) (SP X pins D) X.xe s2) X.xe s1:=λf c doc pm ct H' s1 I1 e1 e2 e3 e4 sx hc=>by have I2:=Yw (fo:=lZ name qual params body scope cl doc pm c ct) I1 e1 e2 e3 e4 (λv z=>by cases z);refine iw (X:=yp X f (lZ name qual params body scope cl doc pm c ct)) (i:=i) (v:= .ref f) I2 hN hi (.inl hx) rfl (λs2 I3=>?_) (.inr hx);exact wpAny_mono (hr f c doc pm ct pins s2 _ H' D I3 (h f c doc pm ct H' sx hc)) (λfl s3 q=>Wn I.ok q) λ_ _ z=>z
 have KX:=I.iY;have hg:s.heap.Ns mainGlobals X.mg:=I.mod.glob.keeps I.bk;obtain⟨m,⟨oL,esL,epL,hoL,_⟩,_⟩:=id I.loc;have hlL:X.env.locals<s.heap.objs.size:=Heap.lt_size hoL;have frn:∀b:Addr,s.heap.objs.size<=b->b∉X.fs:=λb hb hm=>by obtain⟨_,o',ho,_⟩:=I.gL.mem hm;exact absurd (Heap.lt_size ho) (Nat.not_lt.mpr hb)
 have hd:PySem.W.CodeHd s.heap cc T:=PySem.W.codeHd_of_K KX NK;refine wpAny_execs_cons (PySem.W.nestDef_K hd0 hk0 ha ?_);rw[hq];rcases(show bV X.prog X.w H s.heap T (.wx (.tab qual (rawInt pos.line) (rawInt pos.col)))from I.bJ T _ hT)with hP|⟨c,hP,hc⟩
 ·have hP:s.heap.get? T=some (PySem.W.tabObj #[]):=hP;obtain⟨yQ,hbt⟩:=mC I.mod I.bk hP;refine PySem.W.makeFunction_K Ob I.ok.glob hg DU hd hP trivial rfl yQ hbt λc' VA doc h' tk hx1 hge m9 abq hP'=>?_;have Yv:H c'=none:=I.bJ.fresh hge;have hkp:∀b u,b≠T->s.heap.get? b=some u->(h'.push (PySem.W.fnMade name qual params body scope cl doc ((X.mg "__name__").getD .none) c' VA)).get? b=some u:=λb u n e=>Heap.get?_push_of_some _ (hx1 b u n e);have hPp:(h'.push (PySem.W.fnMade name qual params body scope cl doc ((X.mg "__name__").getD .none) c' VA)).get? T=some (PySem.W.tabObj (#[]++#[rawInt pos.line,rawInt pos.col, .ref c'])):=Heap.get?_push_of_some _ hP';have nTc:T≠c':=aQ hT Yv;have Sz:=abq.push (PySem.W.fnMade name qual params body scope cl doc ((X.mg "__name__").getD .none) c' VA);have O0:hG X.prog X.w (upd H c' (gJ qual)) (h'.push (PySem.W.fnMade name qual params body scope cl doc ((X.mg "__name__").getD .none) c' VA)):=λb u e=>by
   by_cases hb:b=c';·rw[hb,av]at e;cases e;rw[hb];exact Sz
   ·rw[aX hb]at e;by_cases WZ:b=T;·rw[WZ,hT]at e;cases e;rw[WZ];exact .inr ⟨c',hPp,av⟩
    ·have nT2:∀c2,H c2=some (.own b)->c2≠T:=λc2 q z=>by rw[z,hT]at q;cases q
     refine(I.bJ b u e).j3 (λc2 o UY q=>hkp c2 o ?_ q) (λc2 q=>?_) λc2 xs q=>?_
     ·rcases UY with rfl|q2;·exact WZ
      ·exact nT2 _ q2
     ·rw[aX (aQ q Yv)];exact q
     ·rw[aX (aQ q Yv)];exact q
  have I1:=I.un (t':=tk) (XR (o:=gJ qual) hT Yv hge hkp ⟨_,hPp⟩) O0;have hsz:s.heap.objs.size<=h'.objs.size:=Nat.le_trans hge (Nat.le_of_lt m9);refine key h'.objs.size c' _ _ _ _ _ I1 (Heap.get?_push_size _ rfl) ?_ (Nat.ne_of_gt (Nat.lt_of_lt_of_le hlL hsz)) (frn _ hsz) (λb o e=>?_) av;·rw[aX (Nat.ne_of_gt m9)];exact I.bJ.fresh hsz
  ·rw[aX (aQ e Yv)];exact e
 ·have hP:s.heap.get? T=some (PySem.W.tabObj #[rawInt pos.line,rawInt pos.col, .ref c]):=hP;obtain⟨yQ,hbt⟩:=mC I.mod I.bk hP;refine PySem.W.makeFunction_hit (cv:= .ref c) Ob I.ok.glob hg DU hd hP ?_ ?_ hbt λVA doc h' tk IQ hsz=>?_;·simp[TriplesOk,rawInt]
  ·simp[codeAmong,rawInt]
  have I1:=I.kept (h':=h'.push {cls:= .type "function",data:= .func (PySem.W.fnX name qual params body scope cl .none .none doc ((X.mg "__name__").getD .none) none (.ref c) VA)}) (t':=tk) λb u e=>Heap.get?_push_of_some _ (IQ b u e);exact key h'.objs.size c _ _ _ _ _ I1 (Heap.get?_push_size _ rfl) (I.bJ.fresh hsz) (Nat.ne_of_gt (Nat.lt_of_lt_of_le hlL hsz)) (frn _ hsz) (λb o e=>e) hc
end L3
end
section
namespace L3
open PySem PySem.Spec PyProof.Rows L2 KM
noncomputable def j7(P:Program)(w:World)(K:PySem.W.Frag)(mg:Str->Option Value)(CX:nH)(x:Str)(k:Nat)(ps:List Str)(sp:Heap->Sp):Prop:=∃f fd,(∀base,wZ P w K mg base CX k f fd ps (sp base))/\mg x=some (.ref f)/\PySem.W.keepIn K (.ref f)=true/\Binds K fd ps []
section
variable{P:Program}{w:World}{K:PySem.W.Frag}{mg:Str->Option Value}
theorem Df.okB{x:Str}{st:Stmt}{N ps:List Str}{k:Nat}{sp:Heap->Sp}(D:Df K mg x st ps)(S:aK N ps (ae st))(len:∀base vs H Q E,sp base vs H Q E->vs.length=ps.length)(eE:∀(base:Heap)(f:Addr)(cM:Value)(A:Around)(outer:List Env)(s:Shared)(H:Hp)(vs:List V)(Q:VK)(E:XK),cI k (A.deeper (envOfC x (ae st) s.heap.objs.size f cM))->sp base vs H Q E->∃t,eM (dZ b_ P w K mg base N x (ae st) f cM A outer s H E).Ka (ai st) t/\t {nx:=λ_ H'=>Q .ba H',rt:=Q} (start N vs) H):j7 P w K mg b_ x (k+1) ps sp:=by obtain⟨f,fd,F,m,b⟩:=D;exact⟨f,fd,λbase=>F.ok S (len base) (eE base f),m,F.kp,b⟩
theorem j7.never{x:Str}{st:Stmt}{ps:List Str}{sp:Heap->Sp}{k:Nat}{CX:nH}(D:Df K mg x st ps)(no:∀base vs H Q E,¬sp base vs H Q E):j7 P w K mg CX x k ps sp:=by obtain⟨f,fd,F,m,b⟩:=D;exact⟨f,fd,λbase=>⟨λvs H Q E h=>absurd h (no base vs H Q E),λA outer s H args us vs Q E _ _ _ _ h=>absurd h (no base vs H Q E)⟩,m,F.kp,b⟩
end
structure C5(X:Cx)(σ:L2.St)(b':Heap):Prop where
 old:∀b o,X.base.get? b=some o->b'.get? b=some o
 pin:∀q∈X.pn,b'.get? q.1=some q.2
 cell:∀(i:Nat)(x:Str)(v:V),X.N[i]?=some x->σ[i]?=some (some v)->X.env.kindOf x=some .cell->X.fn x=true->∃c u,X.env.cells.lookup x=some c/\RelV v u/\b'.IsCell c (some u)
theorem zB{X:Cx}{pins:List (Addr×Obj)}{σ:L2.St}{H:Hp}{s:Shared}(I:Inv X pins σ H s):C5 X σ (xa s.heap H (hI X.stack)):=by
 have nf:∀b o,X.base.get? b=some o->b∉hI X.stack:=λb o e z=>by
  rcases List.mem_cons.mp (I.fi b z)with z|z;·have :=Heap.lt_size e;rw[z]at this;exact absurd this (Nat.not_lt.mpr (Nat.le_trans I.ok.Cz I.ok.above))
  ·exact I.ok.Uk e z
 refine⟨λb o e=>iL (I.bs b o e).1 (I.bs b o e).2 (nf b o e),λq hq=>?_,λi x v h1 h2 h3 h4=>?_⟩
 ·obtain⟨q1,q2,q3,q4,_⟩:=I.pin q (List.mem_append_left _ hq);refine iL q1 q2 λz=>?_;rcases List.mem_cons.mp (I.fi _ z)with z|z;·exact q3 z
  ·exact q4 z
 ·obtain⟨m,hn,hl⟩:=I.loc;obtain⟨u,r,l⟩:=hl i x v h1 h2 (.inr (.inl h3));rcases l with⟨hk,_⟩|⟨_,c,hc,o,ho,hd⟩;·rw[h3]at hk;cases hk
  ·refine⟨c,u,hc,r,o,iL ho (I.dW x c hc) λz=>?_,hd⟩;rcases List.mem_cons.mp (I.fi _ z)with z|z;·exact I.Oq x c hc z
   ·obtain⟨_,o',K4,_⟩:=I.ok.gL.mem z;exact absurd (Heap.lt_size K4) (Nat.not_lt.mpr (I.ok.Po x c h4 hc))
noncomputable def Up(X:Cx)(sp:Heap->Sp)(E:XK)(t:TA):TE:=λσ H Q=>t σ H λvs H1=>∀b',C5 X σ b'->sp b' vs H1 Q E
theorem Kv{X:Cx}{CX:nH}{x:Str}{k:Nat}{ps:List Str}{sp:Heap->Sp}{E:XK}{e:Expr}{es:List Expr}{t:TA}{p pos:Pos}(F:j7 X.prog X.w X.K X.mg CX x k ps sp)(hr:cI k X.A)(hg:Gl X x)(hx:Passes CX X E)(ha:PA X (e::es) t)(vY:(x==("__debug__":Str))=false:=by decide)(he:starEach (e::es) X.env=(false,eval e X.env)::starEach es X.env:=by rfl)(wy:(backTo pos (starEach es X.env)).any (·.1)=false:=by rfl)(hc:X.calm=true:=by rfl):PE X (.Call (.Name x p) (e::es) [] pos) (Up X sp E t):=by
 obtain⟨f,fd,F,m,kp,b⟩:=F;intro pins s σ H Q I h;refine wpAny_Call_Name_kw (gK I hg m ?_ vY);refine PySem.W.callWith_K (h₀:=X.base) I.ok.mod.ID kp (bG (ha pos pins s σ H _ I h) λus s1⟨vs,H1,I1,r,q⟩=>⟨I1.iY,?_⟩) he wy;have q:=q _ (zB I1);have hl:us.length=ps.length:=by rw[<-r.length];exact(F (xa s1.heap H1 (hI X.stack))).len _ _ _ _ q
 have bt:=b s1 us I1.iY (by rw[List.append_nil];exact hl);rw[List.append_nil]at bt;refine wpAny_call (codeAny_mono ((F _).run X.A X.stack s1 H1 ⟨us,[]⟩ us vs Q E hr (K_ I1 hc) bt r q) λr' s' hq=>?_);cases r' with|error e=>exact hx pins σ H1 s1 e s' I1 hq|ok fl=>cases fl with|ret u=>exact I1.after hq|next=>exact False.elim hq|brk=>exact False.elim hq|cont=>exact False.elim hq
noncomputable def lI(P:Program)(w:World)(K:PySem.W.Frag)(mg:Str->Option Value)(base:Heap)(k:Nat)(f:Addr)(sp:Sp):Prop:=PySem.W.FnAt f base/\∀(ie:Heap),(∀b o,base.get? b=some o->ie.get? b=some o)->∀(A:Around)(outer:List Env)(s:Shared)(H:Hp)(us:List Value)(vs:List V)(Q:VK),cI k A->Bh P w K mg ie A outer s H->Vals vs us->sp vs H Q E0->codeAny (model P w) A (.call (.ref f) ⟨us,[]⟩) (CR b_ A.handled outer P w H s Q E0) s
theorem lI.up{P:Program}{w:World}{K:PySem.W.Frag}{mg:Str->Option Value}{base ie:Heap}{k:Nat}{f:Addr}{sp:Sp}(C:lI P w K mg base k f sp)(k':∀b o,base.get? b=some o->ie.get? b=some o):lI P w K mg ie k f sp:=⟨let⟨oc,od,fd,sl,e⟩:=C.1;⟨oc,od,fd,sl,k' _ _ e⟩,λb'' h=>C.2 b'' λb o e=>h b o (k' b o e)⟩
noncomputable def Uh(i:Nat)(f:Addr)(sp:Sp)(t:TA):TE:=λσ H Q=>σ[i]?=some (some (.ref f))/\t σ H λvs H1=>sp vs H1 Q E0
theorem Lm{X:Cx}{x:Str}{k i:Nat}{f:Addr}{sp:Sp}{e:Expr}{es:List Expr}{t:TA}{p pos:Pos}(C:lI X.prog X.w X.K X.mg X.base k f sp)(hr:cI k X.A)(hN:X.N[i]?=some x)(hv:VS X.env.scope x)(ha:PA X (e::es) t)(vY:(x==("__debug__":Str))=false:=by decide)(wN:(x==("__classdict__":Str))=false:=by decide)(he:starEach (e::es) X.env=(false,eval e X.env)::starEach es X.env:=by rfl)(wy:(backTo pos (starEach es X.env)).any (·.1)=false:=by rfl)(hc:X.calm=true:=by rfl):PE X (.Call (.Name x p) (e::es) [] pos) (Uh i f sp t):=by intro pins s σ H Q I h;obtain⟨hσ,h⟩:=h;refine wpAny_Call_Name_kw (wpAny_mono (N4 (X:=X) (i:=i) hN hv vY wN pins s σ H (λv H'=>v= .ref f/\H'=H) I ⟨.ref f,hσ,rfl,rfl⟩) (λu s0 hu=>?_) λ_ _ z=>z);obtain⟨v,H0,I0,ru,rfl,rfl⟩:=hu;cases(show u=Value.ref f from ru);have XA:∀{B5:List (Addr×Obj)}{aY:L2.St}{H':Hp}{s':Shared},Inv X B5 aY H' s'->PySem.W.FnAt f s'.heap:=λ{B5 aY H' s'}J=>let⟨oc,od,fd,sl,e⟩:=C.1;⟨oc,od,fd,sl,(J.bs _ _ e).1⟩;refine PySem.W.callWith_F (XA I0) (bG (ha pos pins s0 σ H0 _ I0 h) λus s1⟨vs,H1,I1,r,q⟩=>⟨XA I1,?_⟩) he wy;have B:=zB I1;refine wpAny_call (codeAny_mono (C.2 _ B.old X.A X.stack s1 H1 us vs Q hr (K_ I1 hc) r q) λr' s' hq=>?_);cases r' with|error e=>exact hq.elim|ok fl=>cases fl with|ret u=>exact I1.after hq|next=>exact False.elim hq|brk=>exact False.elim hq|cont=>exact False.elim hq
end L3
end
section
namespace L3
open PySem PySem.Spec PyProof.Rows L2 KM
noncomputable abbrev LL:=List (Addr×Addr×ON)
structure TabsOk(K:PySem.W.Frag)(h:Heap)(ts:LL):Prop where
 emp:∀q∈ts,h.get? q.2.1=some (PySem.W.tabObj #[])
 hd:∀q∈ts,PySem.W.codeHdIn K q.1 q.2.1=true
 out:∀q∈ts,K.lookup q.2.1=none
 tab:∀q∈ts,∃x l c,q.2.2= .tab x l c
noncomputable def Vl(K:PySem.W.Frag)(a:Addr)(o:Obj)(xs:List V)(ts:LL):Hp:=λb=>if b=a/\K.lookup a=none then some (.CA o (.lst xs))else((ts.map (·.2)).lookup b).map HO.wx
theorem OB{K:PySem.W.Frag}{h:Heap}{c T:Addr}(X:K.In h)(e:PySem.W.codeHdIn K c T=true):isCodeTable h T:=by obtain⟨o,vs,f,tf,fl,tg,b,n,tt,e1,e2,e3,e4,_⟩:=PySem.W.codeHd_of_K X e;exact⟨c,o,vs,e1,e2,e3,e4⟩
theorem AO{β:Type}:∀{l:List (Addr×β)}{x:Addr}{v:β},l.lookup x=some v->(x,v)∈l
 |[],_,_,h=>by simp at h
 |(y,w)::l,x,v,h=>by
  rw[List.lookup_cons]at h;by_cases e:(x==y)=true;·rw[e]at h;have :=beq_iff_eq.mp e;subst this;cases h;exact List.mem_cons_self
  ·rw[show(x==y)=false by simpa using e]at h;exact List.mem_cons_of_mem _ (AO h)
theorem MS{ts:LL}{b:Addr}{s:ON}(e:(ts.map (·.2)).lookup b=some s):∃q∈ts,q.2.1=b/\q.2.2=s:=by have :=AO e;obtain⟨q,hq,z⟩:=List.mem_map.mp this;exact⟨q,hq,by rw[z],by rw[z]⟩
theorem Iv{P:Program}{w:World}{K:PySem.W.Frag}{mg mb:Str->Option Value}{k:Nat}{fa a:Addr}{fd:FuncData}{x:Str}{sp:Sp}{bK:Shared}{vs:List Value}{ns:List Int}{ts:LL}(KX:K.In bK.heap)(CT:bK.heap.Ns mainGlobals mg)(hb:bK.heap.Ns builtinsNs mb)(G6:∀x:Str,x≠"__name__"->mb x=bootBuiltins x)(abW:bK.heap.NoLimit)(hbm:X_ mg bK.heap)(hg:bK.gens=#[])(ha:bK.heap.get? a=some {cls:= .type "list",data:= .seq vs.toArray})(hi:IntsAre vs ns)(hl:ns.length<=sizeLine)(hr:cI k callerA)(T:TabsOk K bK.heap ts)(F:∀base:Heap,wZ P w K mg base b_ k fa fd [x] sp)(aaf:∀(s:Shared)(u:Value),BindsTo s fd ⟨[u],[]⟩ [(x,u)])(Ay:∀H:Hp,(∀q∈ts,(ts.map (·.2)).lookup q.2.1=some q.2.2->H q.2.1=some (.wx q.2.2))->bQ K H a (ns.map V.int)->sp [.ref a] H (λv _=>v= .bl true) E0):codeAny (model P w) callerA (.call (.ref fa) ⟨[.ref a],[]⟩) (λr s'=>r= .ok (.ret (.bool true))/\OldK bK.heap s'.heap/\s'.os=bK.os/\AllBare s'.gens) bK:=by
 have rv:=xr hi;have aci:=hi.length;let o:Obj:={cls:= .type "list",data:= .seq vs.toArray};let H:=Vl K a o (ns.map V.int) ts;have nT:∀q∈ts,q.2.1≠a:=λq hq z=>by have :=T.emp q hq;rw[z,ha]at this;cases this
 have HT:∀q∈ts,(ts.map (·.2)).lookup q.2.1=some q.2.2->H q.2.1=some (.wx q.2.2):=λq hq e=>by show(if q.2.1=a/\K.lookup a=none then _ else _)=_;rw[if_neg λz=>nT q hq z.1,e];rfl
 have only:∀b u,H b=some u->(b=a/\K.lookup a=none/\u= .CA o (.lst (ns.map V.int)))\/∃q∈ts,q.2.1=b/\u= .wx q.2.2:=λb u e=>by
  have e:(if b=a/\K.lookup a=none then some (.CA o (.lst (ns.map V.int)))else((ts.map (·.2)).lookup b).map HO.wx)=some u:=e;by_cases hb:b=a/\K.lookup a=none;·rw[if_pos hb]at e;exact .inl ⟨hb.1,hb.2,(Option.some.inj e).symm⟩
  ·rw[if_neg hb]at e;obtain⟨s,e1,e2⟩:=Option.map_eq_some_iff.mp e;obtain⟨q,hq,r1,r2⟩:=MS e1;exact .inr ⟨q,hq,r1,by rw[r2,e2]⟩
 have objs:∀b u,H b=some u->(b=a)\/bK.heap.get? b=some (PySem.W.tabObj #[]):=λb u e=>by
  rcases only b u e with⟨z,_⟩|⟨q,hq,z,_⟩;·exact .inl z
  ·exact .inr (by rw[<-z];exact T.emp q hq)
 have free:∀{b:Addr}{ob:Obj},bK.heap.get? b=some ob->ob.data≠ .seq vs.toArray->ob.data≠ .fields #[]->H b=none:=λ{b ob}e n1 n2=>by
  cases q:H b with
   |none=>rfl
   |some u=>
    rcases objs b u q with z|z;·rw[z,ha]at e;cases e;exact absurd rfl n1
    ·rw[e]at z;cases z;exact absurd rfl n2
 have nsK:∀{b:Addr}{m:Str->Option Value},bK.heap.Ns b m->(Ar bK.heap H).Ns b m:=λ{b m}⟨ob,es,ep,e,d,r⟩=>⟨ob,es,ep,kE e (free e (by rw[d];simp) (by rw[d];simp)),d,r⟩;have hKb:K.In (Ar bK.heap H):=λb ob e=>kE (KX b ob e) (by
  cases q:H b with
   |none=>rfl
   |some u=>
    rcases only b u q with⟨z,z2,_⟩|⟨q',hq,z,_⟩;·rw[z,z2]at e;cases e
    ·rw[<-z,T.out q' hq]at e;cases e);have bJ:hG P w H bK.heap:=λb u e=>by
  rcases only b u e with⟨z,_,rfl⟩|⟨q,hq,z,rfl⟩;·rw[z];exact⟨ha,by rw[List.length_map];exact hl,vs,_,rv,ha⟩
  ·obtain⟨x',l,c,ex⟩:=T.tab q hq;rw[ex];exact .inl (by rw[<-z];exact T.emp q hq)
 have hS:bQ K H a (ns.map V.int):=by cases hk:K.lookup a with|none=>refine .inl (.inr ⟨o,?_⟩);show(if a=a/\K.lookup a=none then _ else _)=_;rw[if_pos ⟨rfl,hk⟩]|some ob=>have e:=KX a ob hk;rw[ha]at e;cases e;exact .inr ⟨_,vs.toArray,_,hk,rfl,rfl,rfl,by rw[List.size_toArray,aci];exact hl,by simpa using rv⟩
 have hM:Mod K mg (Ar bK.heap H):=⟨hKb,nsK CT,⟨mb,nsK hb,G6⟩,let⟨mc,h1,h2⟩:=abW;⟨mc,nsK h1,h2⟩,let⟨bm,ob,e1,e2,e3,e4⟩:=hbm;⟨bm,ob,e1,e2,kE e3 (free e3 (by rw[e4.2.2];simp) (by rw[e4.2.2];simp)),e4⟩⟩;have e0:Bh P w K mg (Ar bK.heap H) callerA [] bK H:=⟨rfl,hM,λb ob e=>Em e,Nat.le_of_eq (xV _ _),trivial,λb hb=>absurd (show b∈([]:List Addr)from hb) (by simp),bJ, .of_eq hg, .inl rfl⟩;refine codeAny_mono ((F _).run callerA [] bK H ⟨[.ref a],[]⟩ [.ref a] [.ref a] _ _ hr e0 (aaf bK (.ref a)) (.cons rfl .nil) (Ay H HT hS)) λr s' h=>?_;cases r with
  |error e=>exact(show False from h).elim
  |ok fl=>
   cases fl with
    |next=>exact False.elim h
    |brk=>exact False.elim h
    |cont=>exact False.elim h
    |ret u=>
     obtain⟨v,H',os,bare,un,O0,r',q⟩:=h;have q':v= .bl true:=q;subst q';obtain rfl:u=Value.bool true:=r';refine⟨rfl,⟨λb ob e=>?_,λb ob e=>un.there b ob e (by simp)⟩,os,bare⟩;cases q:H b with
      |none=>exact .inl (un.keep b ob e q (by intro z;exact absurd (show b∈([]:List Addr)from z) (by simp)) (by simp))
      |some u=>
       rcases only b u q with⟨z,_,rfl⟩|⟨q',hq,z,rfl⟩;·obtain⟨e2,_⟩:=O0 b _ (un.nA b o _ q);rw[z,ha]at e;cases e;exact .inl e2
       ·obtain⟨x',l,c,ex⟩:=T.tab q' hq;have em:=T.emp q' hq;rw[z,e]at em;cases em;rw[ex]at q;rcases O0 b _ (un.m_ b _ q)with e2|⟨c',e2,_⟩;·exact .inl e2
        ·exact .inr (.inl ⟨by rw[<-z];exact OB KX (T.hd q' hq),rfl,#[],_,rfl,by rw[Array.empty_append];exact e2⟩)
theorem L4{l:PySem.W.OpenLaw}{n k:Nat}{q:Program}{loose:List Str}{XP:(Str->Option Value)->Heap->Prop}{YP:World->Heap->Prop}{d:DefRec}{K:Params->PySem.W.Frag}{sp:World->Sp}{x:Str}{ts:LL}(hn:l.most=some n)(T_:n<=sizeLine)(ZX:d.params.defaults=[])(hr:cI k callerA)(hY:∀(w:World)(h:Heap),YP w h->(K w.params).In h)(hT:∀(w:World)(h:Heap),YP w h->TabsOk (K w.params) h ts)(F:∀(w:World)(mg:Str->Option Value)(fa:Addr)(h:Heap),(K w.params).In h->h.Ns mainGlobals mg->mg d.name=some (.ref fa)->∃fd:FuncData,(∀(s:Shared)(u:Value),BindsTo s fd ⟨[u],[]⟩ [(x,u)])/\∀base:Heap,wZ l.prog w (K w.params) mg base b_ k fa fd [x] (sp w))(Ay:∀(w:World)(H:Hp)(a:Addr)(ns:List Int),ns.length<=n->(∀q∈ts,(ts.map (·.2)).lookup q.2.1=some q.2.2->H q.2.1=some (.wx q.2.2))->bQ (K w.params) H a (ns.map V.int)->sp w [.ref a] H (λv _=>v= .bl true) E0):PySem.W.WalkO q loose XP YP l.row.toRowW d [] (λf vs=>PySem.call f vs):=by refine Att.Cb hn ZX λw bO bK mg mb fa o pm cd doc a vs ns G Y ho hd wN hmg Va hints hlen hg=>?_;have KX:=hY w _ Y;obtain⟨fd,hb,hF⟩:=F w mg fa _ KX G.T.g hmg;exact Iv KX G.T.g G.T.b G.T.builtins G.T.nolimit G.T.bmain hg Va hints (Nat.le_trans hlen T_) hr (hT w _ Y) hF hb λH hO hS=>Ay w H a ns hlen hO hS
noncomputable def Nst(K:PySem.W.Frag)(f T:Addr):Prop:=∃oc od fd BG cc,K.lookup f=some ⟨oc,od, .func fd,BG⟩/\fd.code= .ref cc/\Gv K cc T
noncomputable def Ud(K:PySem.W.Frag)(mg:Str->Option Value)(x:Str)(st:Stmt)(ps:List Str)(T:Addr):Prop:=∃f fd,Qn K x x st f fd/\mg x=some (.ref f)/\Binds K fd ps []/\Nst K f T
theorem Ud.ok{P:Program}{w:World}{K:PySem.W.Frag}{mg:Str->Option Value}{x:Str}{st:Stmt}{N ps:List Str}{k:Nat}{sp:Sp}{T:Addr}(D:Ud K mg x st ps T)(S:aK N ps (ae st))(len:∀vs H Q E,sp vs H Q E->vs.length=ps.length)(eE:∀(base:Heap)(f cc:Addr)(A:Around)(outer:List Env)(s:Shared)(H:Hp)(vs:List V)(Q:VK)(E:XK),Gv K cc T->cI k (A.deeper (envOfC x (ae st) s.heap.objs.size f (.ref cc)))->sp vs H Q E->∃t,eM (dZ b_ P w K mg base N x (ae st) f (.ref cc) A outer s H E).Ka (ai st) t/\t {nx:=λ_ H'=>Q .ba H',rt:=Q} (start N vs) H):bI P w K mg b_ x (k+1) ps sp:=by obtain⟨f,fd,F,m,b,n⟩:=D;refine⟨f,fd,λbase=>?_,m,F.kp,b⟩;obtain⟨oc,od,kV,doc,pm,an,cM,ct,BG,rfl,lk,wN⟩:=F.ex;obtain⟨oc',od',fd',ab1,cc,Zd,hc,nk⟩:=n;rw[lk]at Zd;cases Zd;have hc:cM= .ref cc:=hc;subst hc;exact Ep lk wN S len λA outer s H vs Q E hr Ay=>let⟨t,h,q⟩:=eE base f cc A outer s H vs Q E nk hr Ay;⟨t,h.Ka,q⟩
theorem Mf{K:PySem.W.Frag}{mg:Str->Option Value}{h:Heap}{x:Str}{st:Stmt}{ps:List Str}{c T:Addr}(D:Df K mg x st ps)(X:K.In h)(G:h.Ns mainGlobals mg)(ht:PySem.W.tabIn K x=some (c,T))(hd:PySem.W.codeHdIn K c T=true):Ud K mg x st ps T:=by obtain⟨f,fd,F,m,b⟩:=D;obtain⟨oc,od,kV,doc,pm,an,cM,ct,BG,rfl,lk,wN⟩:=id F.ex;exact⟨f,_,F,m,b,oc,od,_,BG,c,lk,PySem.W.law_code X G ht m (X _ _ lk) rfl,hd⟩
end L3
end
section
namespace L3
open PySem PySem.Spec PyProof.Rows L2 KM
noncomputable def K3(s:Stmt):Pos:=match s with| .FunctionDef _ _ _ _ _ _ _ _ _ p=>p|_=>⟨0,0,0,0⟩
noncomputable def KZ(ps cs:List Str)(names:List (Str×NameKind)):Bool:=names.all (λy=>y.2 != .cell&&(y.2 != .free||cs.contains y.1))&&ps.all (λx=>names.lookup x==some .local)&&cs.all (λx=>names.lookup x==some .free)&&decide (ps++cs).Nodup
theorem mK{ps cs:List Str}{scope:Scope}(h1:scope.kind= .function)(h2:scope.isCoroutine=false)(h3:scope.isGenerator=false)(h:KZ ps cs scope.names=true):fY ps cs scope:=by
 unfold KZ at h;simp only[Bool.and_eq_true,List.all_eq_true,decide_eq_true_eq]at h;obtain⟨⟨⟨a,b⟩,c⟩,d⟩:=h;refine⟨h1,h2,h3,λy hy=>?_,λx hx=>?_,d,λx hx=>?_,λx e=>?_⟩;·simpa using(a y hy).1
 ·simpa using b x hx
 ·simpa using c x hx
 ·have :=(a _ (PySem.mem_of_lookup e)).2;simpa using this
theorem Mz{cl:List (Str×Addr)}(nd:(cl.map (·.2)).Nodup):∀x y a,cl.lookup x=some a->cl.lookup y=some a->x=y:=λx y a h1 h2=>by have m1:=PySem.mem_of_lookup h1;have m2:=PySem.mem_of_lookup h2;obtain⟨i,hi,e1⟩:=List.mem_iff_getElem.mp m1;obtain⟨j,hj,e2⟩:=List.mem_iff_getElem.mp m2;have :i=j:=(List.getElem_inj (i:=i) (j:=j) (h₀:=by simpa using hi) (h₁:=by simpa using hj) nd).mp (by rw[List.getElem_map,List.getElem_map,e1,e2]);subst this;rw[e1]at e2;exact(Prod.mk.inj e2).1
theorem LD{X:Cx}{σ:L2.St}{b':Heap}{f c:Addr}{name qual:Str}{params:Arguments}{body:List Stmt}{scope:Scope}{cl:List (Str×Addr)}{doc pm ct:Value}{cs:List Str}{ws:List V}(B:C5 (yp X f (lZ name qual params body scope cl doc pm c ct)) σ b')(FG:cl.map (·.1)=cs)(hnd:(cl.map (·.2)).Nodup)(hl:ws.length=cs.length)(xP:∀(i:Nat)(x:Str),cs[i]?=some x->∃(j:Nat)(v:V),ws[i]?=some v/\X.N[j]?=some x/\σ[j]?=some (some v)/\X.env.kindOf x=some .cell/\X.fn x=true/\cl.lookup x=X.env.cells.lookup x):v_ b' f c name qual params body scope cs ws cl doc pm ct:=by
 refine⟨B.pin (f,lZ name qual params body scope cl doc pm c ct) List.mem_cons_self,Mz hnd,λx a e=>?_,λi x e=>?_,hl⟩;·rw[<-FG];exact List.mem_map.mpr ⟨_,PySem.mem_of_lookup e,rfl⟩
 ·obtain⟨j,v,e1,e2,e3,e4,e5,e6⟩:=xP i x e;obtain⟨a,u,r1,r2,r3⟩:=B.cell j x v e2 e3 e4 e5;exact⟨v,a,u,e1,by rw[e6];exact r1,r2,r3⟩
theorem Fh{P:Program}{w:World}{K:PySem.W.Frag}{mg:Str->Option Value}{base:Heap}{k:Nat}{ps cs:List Str}{name qual:Str}{params:Arguments}{body:List Stmt}{scope:Scope}{f c:Addr}{cl:List (Str×Addr)}{doc pm ct:Value}{ws:List V}{sp:Sp}(S:fY ps cs scope)(C:v_ base f c name qual params body scope cs ws cl doc pm ct)(hb:∀us:List Value,us.length=ps.length->bindArgs (PySem.W.fnX name qual params body scope cl .none .none doc pm none (.ref c) ct) ⟨us,[]⟩=pure (ps.zip us))(Ay:∀vs H Q,sp vs H Q E0->vs.length=ps.length/\H c=some (gJ qual))(eE:∀(ie:Heap)(A:Around)(outer:List Env)(s:Shared)(H:Hp)(vs:List V)(Q:VK),cI k (A.deeper (jq qual scope s.heap.objs.size f c cl))->sp vs H Q E0->∃t,eM (Bj b_ P w K mg ie (ps++cs) qual scope f c cl A outer s H E0) body t/\t {nx:=λ_ H'=>Q .ba H',rt:=Q} (vs.map some++ws.map some) H):lI P w K mg base (k+1) f sp:=by refine⟨⟨_,_,_,_,C.fo⟩,λie up A outer s H us vs Q hr e0 r h=>?_⟩;obtain⟨hl,hc⟩:=Ay vs H Q h;exact Ou S e0 hr (C.keeps up) hc hl r (.of_eq (hb us (by rw[<-r.length];exact hl))) λRi=>eE ie A outer s H vs Q Ri h
end L3
end
section
namespace L3
open PySem PySem.Spec PyProof.Rows L2 KM
noncomputable def R4(base:Heap)(sp:Heap->Sp)(E:XK)(t:TA):TE:=λσ H Q=>t σ H λvs H1=>∀b',(∀b o,base.get? b=some o->b'.get? b=some o)->sp b' vs H1 Q E
theorem Uz{X:Cx}{base:Heap}{CX:nH}{x:Str}{k:Nat}{ps:List Str}{sp:Heap->Sp}{E:XK}{e:Expr}{es:List Expr}{t:TA}{p pos:Pos}(F:j7 X.prog X.w X.K X.mg CX x k ps sp)(hr:cI k X.A)(hg:Gl X x)(hx:Passes CX X E)(ha:PA X (e::es) t)(vY:(x==("__debug__":Str))=false:=by decide)(he:starEach (e::es) X.env=(false,eval e X.env)::starEach es X.env:=by rfl)(wy:(backTo pos (starEach es X.env)).any (·.1)=false:=by rfl)(hc:X.calm=true:=by rfl)(hbs:X.base=base:=by rfl):PE X (.Call (.Name x p) (e::es) [] pos) (R4 base sp E t):=by
 subst hbs;obtain⟨f,fd,F,m,kp,b⟩:=F;intro pins s σ H Q I h;refine wpAny_Call_Name_kw (gK I hg m ?_ vY);refine PySem.W.callWith_K (h₀:=X.base) I.ok.mod.ID kp (bG (ha pos pins s σ H _ I h) λus s1⟨vs,H1,I1,r,q⟩=>⟨I1.iY,?_⟩) he wy;have q:=q _ (zB I1).old;have hl:us.length=ps.length:=by rw[<-r.length];exact(F (xa s1.heap H1 (hI X.stack))).len _ _ _ _ q
 have bt:=b s1 us I1.iY (by rw[List.append_nil];exact hl);rw[List.append_nil]at bt;refine wpAny_call (codeAny_mono ((F _).run X.A X.stack s1 H1 ⟨us,[]⟩ us vs Q E hr (K_ I1 hc) bt r q) λr' s' hq=>?_);cases r' with|error e=>exact hx pins σ H1 s1 e s' I1 hq|ok fl=>cases fl with|ret u=>exact I1.after hq|next=>exact False.elim hq|brk=>exact False.elim hq|cont=>exact False.elim hq
end L3
namespace L3
open PySem PySem.Spec PyProof.Rows L2 KM
theorem Ud.MD{P:Program}{w:World}{K:PySem.W.Frag}{mg:Str->Option Value}{x:Str}{st:Stmt}{N ps:List Str}{k:Nat}{sp:Sp}{T:Addr}(D:Ud K mg x st ps T)(S:aK N ps (ae st))(len:∀vs H Q E,sp vs H Q E->vs.length=ps.length)(eE:∀(base:Heap)(f cc:Addr)(A:Around)(outer:List Env)(s:Shared)(H:Hp)(vs:List V)(Q:VK)(E:XK),Gv K cc T->cI k (A.deeper (envOfC x (ae st) s.heap.objs.size f (.ref cc)))->sp vs H Q E->∃t,eM (dZ (eJ P w) P w K mg base N x (ae st) f (.ref cc) A outer s H E) (ai st) t/\t {nx:=λ_ H'=>Q .ba H',rt:=Q} (start N vs) H):bI P w K mg (eJ P w) x (k+1) ps sp:=by obtain⟨f,fd,F,m,b,n⟩:=D;refine⟨f,fd,λbase=>?_,m,F.kp,b⟩;obtain⟨oc,od,kV,doc,pm,an,cM,ct,BG,rfl,lk,wN⟩:=F.ex;obtain⟨oc',od',fd',ab1,cc,Zd,hc,nk⟩:=n;rw[lk]at Zd;cases Zd;have hc:cM= .ref cc:=hc;subst hc;exact Ep lk wN S len λA outer s H vs Q E hr Ay=>eE base f cc A outer s H vs Q E nk hr Ay
end L3
namespace L3
open PySem PySem.Spec PyProof.Rows L2 KM
theorem Ul{X:Cx}{f:Addr}{fo:Obj}(hf:∀vs,fo.data≠ .fields vs)(ok:(yp X f fo).Ok):X.Ok:=⟨ok.mod,ok.kind,ok.glob,ok.blt,ok.above,ok.inj,ok.has,ok.Po,λh=>by
 rcases ok.hd h with h|⟨a,oe,vs,e1,e2,e3⟩;·exact .inl h
 ·refine .inr ⟨a,oe,vs,e1,?_,e3⟩;rcases e2 with e2|e2;·exact .inl e2
  ·rcases List.mem_cons.mp e2 with z|z;·cases z;exact absurd e3.1 (hf vs)
   ·exact .inr z,ok.frames,ok.Td,ok.Sd,ok.bs,ok.Cz,ok.xf,ok.Ah,ok.gL,ok.Oe⟩
theorem Ji{CX:nH}{X:Cx}{f:Addr}{fo:Obj}{E:XK}(h:Passes CX X E)(hf:∀vs,fo.data≠ .fields vs):Passes CX (yp X f fo) E:=λpins σ H s e s' I hc=>h pins σ H s e s' (vT (Ul hf I.ok) I) hc
end L3
end
section
set_option maxHeartbeats 1000000
namespace K26
open PySem L2 L3 KM PyProof.Rows
seal L2.PE L2.PS L2.eM L2.PT L2.PW L2.PA L2.PG L2.kW L2.PI L2.PC L2.PO L2.nj L2.PK L3.lr L3.PH L3.PB
variable{P:Program}{w:World}{K:PySem.W.Frag}{mg:Str->Option Value}{base:Heap}{t:jo}
noncomputable def Ni(g:Int->Int->D)(Pre:Hp->Prop):Sp:=λvs H Q _=>∃n b:Int,vs=[.int n, .int b]/\0<=n/\0<=b/\Pre H/\∀(v:V)(H':Hp),aA H H'->Rep H' (g n b) v->Q v H'
structure Chg(P:Program)(w:World)(K:PySem.W.Frag)(mg:Str->Option Value)(base:Heap)(kc:Nat)(f:Addr)(g:Int->Int->D)(Pre:Hp->Prop):Prop where
 cal:lI P w K mg base kc f (Ni g Pre)
 st:∀H H',Pre H->aA H H'->Pre H'
noncomputable def Cy(x:Str)(i:Nat):Int:=if decide (V.int i=Cp x)=true then 1 else 0
theorem Tx(x:Str)(i:Nat):0<=Cy x i:=by unfold Cy;split<;>decide
theorem PZ(x:Str)(i:Nat):j9 x i= .int (Cy x i):=by unfold j9 Cy;split<;>rfl
noncomputable def iX(g:Int->Int->D):Nat->Int->D->D|n+1,b, .tup (.str x::ps)=>if x="var"then(match ps with|[.int i]=>if b<=i then g (i-b) b else .tup (.str x::ps)|_=> .tup (.str x::ps))else fg x ps ((List.range (aH x ps).length).map λi=>iX g n (b+Cy x i) (((aH x ps)[i]?).getD .ba))|_,_,d=>d
noncomputable def Li(P:Program)(w:World)(K:PySem.W.Frag)(mg:Str->Option Value)(kc n:Nat)(base:Heap):Sp:=λvs H Q _=>∃(d:D)(v:V)(b:Int)(f:Addr)(g:Int->Int->D)(Pre:Hp->Prop),vs=[v, .int b, .ref f]/\Rep H d v/\Wf d/\depth d<n/\0<=b/\Pre H/\Chg P w K mg base kc f g Pre/\∀(u:V)(H':Hp),aA H H'->Rep H' (iX g n b d) u->Q u H'
theorem k_:aK ["thing","binders","change","kids"] ["thing","binders","change"] (ae dE):=⟨rfl,rfl,rfl,by decide+kernel,rfl,by decide+kernel,by decide+kernel⟩
theorem zE{kc n:Nat}(D:Df K mg "with_free" dE ["thing","binders","change"])(M:Mg mg t)(bc:bI P w K mg b_ "kids_of" (1) ["thing"] eh)(gR:bI P w K mg b_ "binds_of" (1) ["thing"] yA)(cY:bI P w K mg b_ "rebuilt" (1) ["thing","kids"] fW)(eD:j7 P w K mg b_ "with_free" (n+kc+3) ["thing","binders","change"] (Li P w K mg kc n)):j7 P w K mg b_ "with_free" (n+kc+4) ["thing","binders","change"] (Li P w K mg kc (n+1)):=by
 refine D.okB k_ (λbase vs H Q E h=>?_) (λbase f cM A outer s H vs Q E hr h=>?_);·obtain⟨d,v,b,fc,g,Pre,rfl,_⟩:=h;rfl
 obtain⟨d,v,b,fc,g,Pre,rfl,r,wfd,hd,hb,hp,C,q⟩:=h;have hC:=C.cal;obtain⟨x,ps,k,rfl,wf,G7⟩:=mD wfd;have Xq:=Io wf;obtain⟨a,J5,rfl,ha,v0,J5,rfl,⟨rfl,hx⟩,rp⟩:=id r;have ea:zK (V.str x::J5) 0=some (.str x):=aF (j:=0) rfl;refine⟨_,(ah (bB (aG cj (aW aR (pv 0) aj (λ_ _=>rfl)) ar (aM _)) (aq (aB (ic (aG MC (aW aR (pv 0) aj (λ_ _=>rfl)) (pv 1) (aM _)) (Lm (i:=2) hC (hr.mono (by omega)) rfl (by first|exact Or.inl rfl|exact Or.inr (Or.inl rfl)|exact Or.inr (Or.inr rfl)) (aa (bh fL (aW aR (pv 0) aj (λ_ _=>rfl)) (pv 1)) (aa (pv 1) af))) (pv 0)))) aN) (ah (Oy (ix:=3) (N':=["kid","bound","change","binders"]) (own:=2) (fr:=[2,1]) k_.nd rfl rfl rfl (vc (N:=["thing","binders","change","kids"]) (sc:=ae dE) rfl rfl rfl (by decide+kernel)) (O3 rfl M.WI (aa (aO bc (hr.mono (by omega)) rfl aU (aa (pv 0) af)) (aa (aO gR (hr.mono (by omega)) rfl aU (aa (pv 0) af)) af))) (Kz (n:=2) (by decide) (by decide)) (λ_ _ _=>(ve (n:=2) rfl (cz (bA (i:=0) (show List.Nodup (["kid","bound","change","binders"]:List Str)by decide+kernel) rfl (Or.inl rfl)) (cz (bA (i:=1) (show List.Nodup (["kid","bound","change","binders"]:List Str)by decide+kernel) rfl (Or.inl rfl)) jQ)))) (λ_ _ _=>tG) (λ_ _ _=>(Uz (base:=base) eD (hr.mono (by omega)) rfl aU (aa (pv 0) (aa (bh cP (pv 3) (pv 1)) (aa (pv 2) af)))))) (aq (aB (aO cY (hr.mono (by omega)) rfl aU (aa (pv 0) (aa (pv 3) af))))))),?_⟩;try dsimp only[jb,c_]
 refine Dk ?_;intro _ _ _;refine⟨_,rfl,a,_,_,_,rfl,rfl,bN.of ha,ea,rfl,_,rfl,?_⟩;refine aZ (λc=>?_) (λc=>?_)
 ·have c:V.str x=V.str "var":=of_decide_eq_true c;cases c;obtain⟨sh,e1,_,e3,_,e5,_⟩:=cx wf;rw[eX]at e1;cases e1;rw[A9]at e3 e5;obtain⟨p0,rfl⟩:∃p0,ps=[p0]:=by cases ps with|nil=>simp at e5|cons p0 rest=>cases rest with|nil=>exact⟨p0,rfl⟩|cons _ _=>simp at e5
  rw[aT,Bool.and_eq_true]at e3;have hn:jc p0=true:=by simpa[fj]using e3.1
  obtain⟨i,rfl⟩:∃i,p0= .int i:=by cases p0<;>first|exact⟨_,rfl⟩|simp[jc]at hn
  obtain⟨u1,us1,rfl,r1,_⟩:=rp;cases(show u1=V.int i from r1);have h0:0<=i:=by simpa[jc]using hn
  have e:iX g (n+1) b (.tup [.str "var", .int i])=if b<=i then g (i-b) b else .tup [.str "var", .int i]:=by rw[iX,if_pos rfl]
  rw[e]at q;refine⟨_,rfl,a,_,_, .int i,rfl,rfl,bN.of ha,aF (j:=1) rfl,_,rfl,_,_,rfl,rfl,_,rfl,?_⟩;refine aZ (λc=>?_) (λc=>?_);·have c:b<=i:=of_decide_eq_true c;rw[if_pos c]at q;exact⟨rfl,_,rfl,a,_,_, .int i,rfl,rfl,bN.of ha,aF (j:=1) rfl,_,rfl,_,_,rfl,rfl,_,rfl,i-b,b,rfl,by omega,hb,hp,q⟩
  ·have c:¬b<=i:=of_decide_eq_false (Bool.eq_false_iff.mpr c);rw[if_neg c]at q;exact⟨_,rfl,q _ H (aA.refl H) r⟩
 have hv:x≠"var":=λz=>c (by rw[z];exact decide_eq_true rfl);have e:iX g (n+1) b (.tup (.str x::ps))=fg x ps ((List.range (aH x ps).length).map λi=>iX g n (b+Cy x i) (((aH x ps)[i]?).getD .ba)):=by
  conv=>lhs;unfold iX
  exact if_neg hv
 rw[e]at q;refine⟨_,rfl,x,ps,_,rfl,r,G7,λp1 us H1 _ s1 h1 r1=>⟨_,rfl,x,ps,_,k,rfl,r.mono s1,wf,λp2 H2 s2 h2=>⟨p1,p2,us,_,rfl,bQ.of (s2 _ _ h1),bQ.of h2,λp3 Vv=>?_⟩⟩⟩;have l1:=r1.length;have CB:=s1.trans s2;have Kb:=s2 _ _ h1;refine JL (aH x ps).length (λi=>iX g n (b+Cy x i) (((aH x ps)[i]?).getD .ba)) Vv (Nat.le_trans Xq (by decide)) (λi H3 hi s3=>?_) λacc H3 s3 h3 r3=>⟨⟨us,_,bQ.of (s3 _ _ Kb),bQ.of (s3 _ _ h2),by omega⟩,?_⟩
 ·obtain⟨di,J7⟩:∃di,(aH x ps)[i]?=some di:=⟨_,List.getElem?_eq_getElem hi⟩;obtain⟨ui,Q4,UU⟩:=r1.get J7;have hbi:(Dm x (aH x ps).length)[i]?=some (.int (Cy x i)):=by unfold Dm;rw[List.getElem?_map,List.getElem?_range hi];show some (j9 x i)=_;rw[PZ]
  refine⟨⟨us,_,ui,_,bQ.of (s3 _ _ Kb),bQ.of (s3 _ _ h2),Q4,hbi⟩,?_⟩;rintro y H4⟨p,x',y',rfl,hpn,rfl,hy⟩R hR;obtain⟨y1,y2⟩:=hy us _ (bQ.of (s3 _ _ Kb)) (bQ.of (s3 _ _ h2));rw[Q4]at y1;rw[hbi]at y2;cases y1;cases y2;have s4:=ag hpn (.tup [ui, .int (Cy x i)]);obtain⟨w1,w2⟩:=Dl wf J7;rw[J7]at hR;have sa:=CB.trans (s3.trans s4);refine⟨p,_,rfl,bN.of av,rfl,_,_,rfl,_,_,rfl,rfl,?_⟩;exact⟨_,rfl,_,rfl,_,rfl,_,_,rfl,rfl,_,rfl,λb' up=>⟨di,ui,b+Cy x i,fc,g,Pre,rfl,UU.mono (s2.trans (s3.trans s4)),w1,by omega,by have :=Tx x i;omega,C.st _ _ hp sa,⟨hC.up up,C.st⟩,λu H5 s5 r5=>hR u H5 (s4.trans s5) r5⟩⟩
 ·refine⟨_,rfl,_,rfl,x,ps,_,_,p3,acc,rfl,r.mono (CB.trans s3),h3,r3,by rw[List.length_map,List.length_range];omega,λu H4 s4 r4=>q u H4 (CB.trans (s3.trans s4)) r4⟩
theorem iM{kc:Nat}(D:Df K mg "with_free" dE ["thing","binders","change"])(M:Mg mg t)(bc:bI P w K mg b_ "kids_of" (1) ["thing"] eh)(gR:bI P w K mg b_ "binds_of" (1) ["thing"] yA)(cY:bI P w K mg b_ "rebuilt" (1) ["thing","kids"] fW):∀n:Nat,j7 P w K mg b_ "with_free" (n+kc+3) ["thing","binders","change"] (Li P w K mg kc n)|0=>j7.never D λbase vs H Q E⟨d,v,b,f,g,Pre,_,_,_,h,_⟩=>absurd h (Nat.not_lt_zero _)|n+1=>by have :=zE (kc:=kc) D M bc gR cY (iM D M bc gR cY n);rwa[show n+1+kc+3=n+kc+4 by omega]
end K26
end
section
set_option maxHeartbeats 1000000
namespace K26
open PySem L2 L3 KM PyProof.Rows
seal L2.PE L2.PS L2.eM L2.PT L2.PW L2.PA L2.PG L2.kW L2.PI L2.PC L2.PO L2.nj L2.PK L3.lr L3.PH L3.PB
variable{P:Program}{w:World}{K:PySem.W.Frag}{mg:Str->Option Value}{base:Heap}{t:jo}
noncomputable abbrev gZ:Stmt:=(ai iK).getD 0 (.Pass ⟨0,0,0,0⟩)
theorem lW:fY ["number","binders"] ["low","by"] (ae gZ):=mK rfl rfl rfl (by decide+kernel)
noncomputable def K9(Of low:Int)(n b:Int):D:= .tup [.str "var", .int (n+b+(if low<=n then Of else 0))]
noncomputable def BJ:Str:="raised.<locals>.change"
noncomputable def Bl:Pos:=K3 gZ
noncomputable def Bq(T:Addr)(n:Nat):Sp:=λvs H Q _=>∃(d:D)(v:V)(Of low:Int),vs=[v, .int Of, .int low]/\Rep H d v/\Wf d/\depth d<n/\jn H T BJ Bl/\∀(u:V)(H':Hp),aA H H'->Rep H' (iX (K9 Of low) n 0 d) u->Q u H'
theorem xG:aK ["thing","by","low","change"] ["thing","by","low"] (ae iK):=⟨rfl,rfl,rfl,by decide+kernel,rfl,by decide+kernel,by decide+kernel⟩
theorem Nw{n:Nat}{T:Addr}(D:Ud K mg "raised" iK ["thing","by","low"] T)(M:Mg mg t)(eD:j7 P w K mg b_ "with_free" (n+1+3) ["thing","binders","change"] (Li P w K mg 1 n)):bI P w K mg b_ "raised" (n+5) ["thing","by","low"] (Bq T n):=by
 refine D.ok xG (λvs H Q E h=>?_) (λbase f cc A outer s H vs Q E nk hr h=>?_);·obtain⟨d,v,Of,low,rfl,_⟩:=h;rfl
 obtain⟨d,v,Of,low,rfl,r,wfd,hd,hT,q⟩:=h;refine⟨_,(Ig (i:=3) (qual:=BJ) nk rfl xG.nd rfl rfl rfl rfl (λfc c doc pm ct=>(aq (aB (Kv eD (hr.mono (by omega)) rfl aU (aa (pv 0) (aa aj (aa (pv 3) af)))))))),?_⟩;try dsimp only[jb,c_]
 refine⟨hT,λfc c doc pm ct H1 s1 hc=>?_⟩;refine⟨v,rfl,_,rfl,λb' B=>?_⟩;refine⟨d,v,0,fc,K9 Of low,λH'=>H' c=some (gJ BJ),rfl,r.mono s1,wfd,hd,Int.le_refl 0,hc,⟨?_,λH1 H2 h s=>s _ _ h⟩,λu H2 s2 r2=>q u H2 (s1.trans s2) r2⟩;have C:=LD (cs:=["low","by"]) (ws:=[.int low, .int Of]) B rfl (by simp) rfl λi x e=>by match i,e with|0,e=>cases e;exact⟨2,_,rfl,rfl,rfl,rfl,rfl,rfl⟩|1,e=>cases e;exact⟨1,_,rfl,rfl,rfl,rfl,rfl,rfl⟩|i+2,e=>simp at e
 refine Fh (k:=0) lW C (λus hl=>match us,hl with|[_,_],_=>rfl) (λvs H Q⟨n,b,e,_,_,h,_⟩=>⟨by rw[e];rfl,h⟩) λie A outer s H vs Q hr h=>?_;obtain⟨n,b,rfl,h0,hb,_,q⟩:=h;refine⟨_,(aq (aB (ay (aa ar (aa (bh cP (bh cP (pv 0) (pv 1)) (ic (aG MC (pv 0) (pv 2) (aM _)) (pv 3) aj)) af))))),?_⟩;refine⟨_,rfl,_,rfl,_,_,rfl,rfl,_,rfl,_,rfl,_,_,rfl,rfl,_,rfl,?_⟩;have fin:∀z:Int,z=(if low<=n then Of else 0)->∀p,H p=none->Q (.ref p) (upd H p (.tup [.str "var", .int (n+b+z)])):=λz hz p hp=>by refine q _ _ (ag hp _) ?_;rw[hz];exact aE hp (rs dU (rs ri r0))
 refine aZ (λc=>?_) (λc=>?_);·have c:low<=n:=of_decide_eq_true c;exact⟨_,rfl,_,_,rfl,rfl,(by show 2<=sizeLine;decide),fin Of (by rw[if_pos c])⟩
 ·have c:¬low<=n:=of_decide_eq_false (Bool.eq_false_iff.mpr c);exact⟨_,_,rfl,rfl,(by show 2<=sizeLine;decide),fin 0 (by rw[if_neg c])⟩
theorem sX{z:Int}(h:0<=z):bU aP false (.tup [.str "var", .int z])=true:=by refine fO eX Lr ?_;rw[A9,aT];simp[fj,jc,h,gX]
end K26
end
section
set_option maxHeartbeats 1000000
namespace K26
open PySem L2 L3 KM PyProof.Rows
seal L2.PE L2.PS L2.eM L2.PT L2.PW L2.PA L2.PG L2.kW L2.PI L2.PC L2.PO L2.nj L2.PK L3.lr L3.PH L3.PB
variable{P:Program}{w:World}{K:PySem.W.Frag}{mg:Str->Option Value}{base:Heap}{t:jo}
noncomputable abbrev gY:Stmt:=(ai h_).getD 0 (.Pass ⟨0,0,0,0⟩)
theorem lU:fY ["number","binders"] ["other","at"] (ae gY):=mK rfl rfl rfl (by decide+kernel)
noncomputable def Dc(o:D)(at_:Int)(n b:Int):D:=if n=at_ then iX (K9 b 0) 58 0 o else .tup [.str "var", .int (n+b-(if at_<n then 1 else 0))]
noncomputable def yb:Str:="put_in.<locals>.change"
noncomputable def xl:Pos:=K3 gY
noncomputable abbrev kC(o:D)(at_:Int)(d:D):D:=iX (Dc o at_) 58 0 d
noncomputable abbrev bx(d:D):Bool:=cE d||c8 d
structure aaK(H:Hp)(T1 T2:Addr)(at_:Int)(d o:D)(v u:V):Prop where
 r:Rep H d v
 ro:Rep H o u
 wf:Wf d
 wfo:Wf o
 dp:depth d<58
 dpo:depth o<58
 rz:Rz (kC o at_ d) 100
 t1:jn H T1 BJ Bl
 t2:jn H T2 yb xl
noncomputable def GP(C T1 T2:Addr):Sp:=λvs H Q E=>∃(d o:D)(v u:V)(at_:Int),vs=[v,u, .int at_]/\aaK H T1 T2 at_ d o v u/\(∀(z:V)(H':Hp),aA H H'->bx (kC o at_ d)=false->Rep H' (kC o at_ d) z->Q z H')/\(∀H',aA H H'->bx (kC o at_ d)=true->E (.ref C) none H')
theorem xM:aK ["thing","other","at","change"] ["thing","other","at"] (ae h_):=⟨rfl,rfl,rfl,by decide+kernel,rfl,by decide+kernel,by decide+kernel⟩
theorem Nf{T1 T2:Addr}(D:Ud K mg "put_in" h_ ["thing","other","at"] T2)(M:Mg mg t)(MV:bI P w K mg b_ "raised" (63) ["thing","by","low"] (Bq T1 58))(eD:j7 P w K mg b_ "with_free" (58+64+3) ["thing","binders","change"] (Li P w K mg 64 58))(lO:bI P w K mg (eJ P w) "bounded" (104) ["thing"] (lE t.br 100)):bI P w K mg (eJ P w) "put_in" (126) ["thing","other","at"] (GP t.br T1 T2):=by
 refine D.MD xM (λvs H Q E h=>?_) (λbase f cc A outer s H vs Q E nk hr h=>?_);·obtain⟨d,o,v,u,at_,rfl,_⟩:=h;rfl
 obtain⟨d,o,v,u,at_,rfl,I,q,qe⟩:=h;refine⟨_,(Ig (i:=3) (qual:=yb) nk rfl xM.nd rfl rfl rfl rfl (λfc c doc pm ct=>(aq (aB (aO lO (hr.mono (by omega)) rfl (Ji cq (λ_ z=>nomatch z)) (aa (Kv eD (hr.mono (by omega)) rfl aU (aa (pv 0) (aa aj (aa (pv 3) af)))) af)))))),?_⟩;try dsimp only[jb,c_]
 refine⟨I.t2,λfc c doc pm ct H1 s1 hc=>?_⟩;refine⟨v,rfl,_,rfl,λb' B=>?_⟩;refine⟨d,v,0,fc,Dc o at_,λH'=>H' c=some (gJ yb)/\Rep H' o u/\jn H' T1 BJ Bl,rfl,I.r.mono s1,I.wf,I.dp,Int.le_refl 0,⟨hc,I.ro.mono s1,I.t1.mono s1⟩,⟨?_,λH1 H2 h s=>⟨s _ _ h.1,h.2.1.mono s,h.2.2.mono s⟩⟩,λz H2 s2 r2=>?_⟩;rotate_left;·exact⟨_,z,rfl,r2,I.rz,λH3 s3 hv=>q z H3 (s1.trans (s2.trans s3)) hv (r2.mono s3),λH3 s3 hv=>qe H3 (s1.trans (s2.trans s3)) hv⟩
 have C:=LD (cs:=["other","at"]) (ws:=[u, .int at_]) B rfl (by simp) rfl λi x e=>by match i,e with|0,e=>cases e;exact⟨1,_,rfl,rfl,rfl,rfl,rfl,rfl⟩|1,e=>cases e;exact⟨2,_,rfl,rfl,rfl,rfl,rfl,rfl⟩|i+2,e=>simp at e
 refine Fh (k:=63) lU C (λus hl=>match us,hl with|[_,_],_=>rfl) (λvs H Q⟨n,b,e,_,_,h,_⟩=>⟨by rw[e];rfl,h.1⟩) λie A outer s H vs Q hr h=>?_;obtain⟨n,b,rfl,h0,hb,⟨_,ho,hT⟩,q⟩:=h;refine⟨_,(ah (bB (aG cj (pv 0) (pv 3) (aM _)) (aq (aB (aO MV (hr.mono (by omega)) rfl aU (aa (pv 2) (aa (pv 1) (aa aj af)))))) aN) (aq (aB (ay (aa ar (aa (bh fL (bh cP (pv 0) (pv 1)) (ic (aG mQ (pv 0) (pv 3) (aM _)) aj aj)) af)))))),?_⟩;unfold Dc at q;refine⟨_,rfl,_,rfl,rfl,_,rfl,?_⟩;refine aZ (λc=>?_) (λc=>?_)
 ·have c:n=at_:=by have :V.int n=V.int at_:=of_decide_eq_true c;injection this
  rw[if_pos c]at q;exact⟨_,rfl,_,rfl,o,u,b,0,rfl,ho,I.wfo,I.dpo,hT,q⟩
 have c:¬n=at_:=λz=>c (by rw[z];exact decide_eq_true rfl);rw[if_neg c]at q;refine⟨_,rfl,_,rfl,_,_,rfl,rfl,_,rfl,_,rfl,_,_,rfl,rfl,_,rfl,?_⟩;have fin:∀z:Int,z=(if at_<n then 1 else 0)->∀p,H p=none->Q (.ref p) (upd H p (.tup [.str "var", .int (n+b-z)])):=λz hz p hp=>by refine q _ _ (ag hp _) ?_;rw[hz];exact aE hp (rs dU (rs ri r0))
 refine aZ (λc=>?_) (λc=>?_);·have c:at_<n:=of_decide_eq_true c;exact⟨_,_,rfl,rfl,(by show 2<=sizeLine;decide),fin 1 (by rw[if_pos c])⟩
 ·have c:¬at_<n:=of_decide_eq_false (Bool.eq_false_iff.mpr c);exact⟨_,_,rfl,rfl,(by show 2<=sizeLine;decide),fin 0 (by rw[if_neg c])⟩
end K26
end
section
namespace L3
open PySem PySem.Spec PyProof.Rows L2 KM
end L3
end
section
namespace L3
open PySem
end L3
end
section
namespace L3
open PySem PySem.Builtin PySem.Builtin.Str PySem.StrLaws
noncomputable def brk(c:Nat):Bool:=c==32||c==10||c==40||c==41
end L3
end
section
namespace L3
open PySem PySem.Spec PyProof.Rows L2 KM
section
variable{X:Cx}
variable{e:Expr}{es:List Expr}{te:TE}{st:Stmt}{rest:List Stmt}{t u:TS}{pos:Pos}
end
structure acG(P:Program)(w:World)(K:PySem.W.Frag)(mg:Str->Option Value)(base:Heap)(CX:nH)(k:Nat)(f:Addr)(fd:FuncData)(ps:List Str)(sp:Sp):Prop where
 len:∀vs H Q E,sp vs H Q E->vs.length=ps.length
 run:∀(A:Around)(outer:List Env)(s:Shared)(H:Hp)(args:Args)(us:List Value)(vs:List V)(Q:VK)(E:XK),0<s.toks->cI k A->Bh P w K mg base A outer s H->BindsTo s fd args (ps.zip us)->Vals vs us->sp vs H Q E->codeAny (model P w) A (.call (.ref f) args) (CR CX A.handled outer P w H s Q E) s
section
variable{X:Cx}
end
end L3
end
section
namespace L3
open PySem PySem.Spec PyProof.Rows L2
section
variable{prog:Program}{w:World}{A:Around}{E:Value->Shared->Prop}{s:Shared}
end
end L3
end
section
namespace L3
open PySem PySem.Spec PyProof.Rows L2
theorem fX:fillsNumberSlot (.type "tuple") "mul"=pure false:=PySem.fillsNumberSlot_seq (id:="tuple.__mul__") (r:=some (.builtin "tuple.__rmul__")) PySem.F.slot_tuple_mul.lookup (by decide+kernel) PySem.F.slot_tuple_rmul.lookup (by decide+kernel)
theorem kK:seqRepeat? (.type "tuple")=pure (some (.builtin "tuple.__mul__")):=by unfold seqRepeat?;rw[PySem.seqSlot_of (T:="tuple") (name:="__mul__") (id:="tuple.__mul__") PySem.F.slot_tuple_mul.lookup (by decide+kernel),PySem.seqSlot_of (T:="tuple") (name:="__rmul__") (id:="tuple.__rmul__") PySem.F.slot_tuple_rmul.lookup (by decide+kernel)];rfl
theorem kZ(a:Int)(t:Tok)(l:Addr)(items:Array Value)(n:Nat)(dd:Option Addr)(sl:Array (Option Value)):Meets (Builtin.«int.__rmul__» ⟨[.int a t, .ref l],[]⟩) (λ_ R s=>s.heap.get? l=some {cls:= .type "tuple",dict:=dd,data:= .seq items n,slots:=sl}/\R (.ok (.ret Value.notImplemented)) s):= .of_wp λprog w A R s h=>by obtain⟨hp,g,d,tk,os⟩:=s;obtain⟨hl,h⟩:=h;wp_walk;exact⟨_,rfl,h⟩
theorem K1(l:Addr)(t:Tok)(items:Array Value)(n:Nat)(dd:Option Addr)(sl:Array (Option Value)):Meets (Builtin.«tuple.__mul__» ⟨[.ref l, .int 1 t],[]⟩) (λ_ R s=>s.heap.get? l=some {cls:= .type "tuple",dict:=dd,data:= .seq items n,slots:=sl}/\R (.ok (.ret (.ref l))) s):= .of_wp λprog w A R s h=>by obtain⟨hp,g,d,tk,os⟩:=s;obtain⟨hl,h⟩:=h;wp_walk;exact⟨_,rfl,h⟩
theorem KC(l:Addr)(k:Int)(t:Tok)(items:Array Value)(n:Nat)(dd:Option Addr)(sl:Array (Option Value))(h2:¬(decide (k< -2^63)||decide (k>=2^63))=true)(hi:¬(items.isEmpty||k==1)=true)(hj:¬(decide (k<=0)||items.isEmpty)=true)(hm:¬(items.size*k>(2^63-1)/8))(ht:¬Builtin.Tuple.tupleTooMany (items.size*k)=true)(hz:¬(List.foldl (λx1 x2=>x1++x2) #[] (List.replicate k.toNat items)).size>sizeLine):Meets (Builtin.«tuple.__mul__» ⟨[.ref l, .int k t],[]⟩) (λ_ R s=>s.heap.get? l=some {cls:= .type "tuple",dict:=dd,data:= .seq items n,slots:=sl}/\R (.ok (.ret (.ref s.heap.objs.size))) {s with heap:=s.heap.push {cls:= .type "tuple",data:= .seq ((List.replicate k.toNat items).foldl (·++·) #[])}}):= .of_wp λprog w A R s h=>by obtain⟨hp,g,d,tk,os⟩:=s;obtain⟨hl,h⟩:=h;wp_walk;refine wpAny_ite_false (decide_eq_false h2) ?_;wp_walk;refine wpAny_ite_false (decide_eq_false hm) ?_;wp_walk;exact⟨_,rfl,h⟩
noncomputable def Ym:R2:=λx y H Q=>∃a k xs,x= .ref a/\y= .int ((k:Nat):Int)/\H a=some (.tup xs)/\xs≠[]/\1<=k/\k<=1000/\xs.length<=1000/\∀p H',aA H H'->H' p=some (.tup (List.replicate k xs).flatten)->Q (.ref p) H'
theorem Qk{X:Cx}:jB X (binaryOp .Mult) Ym:=by
 intro pins s σ H x y v u Q I rx ry h;obtain⟨a,k,xs,rfl,rfl,hH,yQ,h1,h2,h3,q⟩:=h;cases rx;obtain⟨t,rfl⟩:=ry;obtain⟨aI,r1,p1,_⟩:=I.tuple (bN.of hH);have hl:aI.length=xs.length:=r1.length.symm;obtain⟨⟨cls,dd,data,sl⟩,ho,hc,n,hd⟩:=id p1;simp only at hc hd;subst hc hd;have ZU:List.foldl (λx1 x2=>x1++x2) #[] (List.replicate k aI.toArray)=(List.replicate k aI).flatten.toArray:=by have :=foldl_rep aI k [];rw[List.nil_append]at this;exact this
 have hlen:(List.replicate k aI).flatten.length=k*aI.length:=len_rep aI k;have hb:k*aI.length<=1000*1000:=Nat.mul_le_mul h2 (by omega);refine wpAny_binaryOp_repeat_ref (T:="tuple") (U:="int") (by decide) ⟨_,ho,rfl⟩ (λs'=>typeIs_int s' _ t) fX PySem.F.fills_int_mul PySem.F.slot_int_rmul kK PySem.F.slot_int_index.lookup (call_meets PySem.F.slot_int_rmul (typeIs_int s _ t) PySem.F.entry_int_rmul (PySem.F.args_int_rmul_2 _ _) (kZ _ t a aI.toArray n dd sl) ⟨ho,rfl,⟨_,ho,rfl⟩,?_⟩);by_cases hk:k=1;·subst hk;exact call_meets PySem.F.slot_tuple_mul ⟨_,ho,rfl⟩ PySem.F.entry_tuple_mul (PySem.F.args_tuple_mul_2 _ _) (K1 a t aI.toArray n dd sl) ⟨ho, .ref a,H,I,rfl,q a H (aA.refl H) (by rw[hH];simp)⟩
 ·have hie:aI.toArray.isEmpty=false:=by cases aI with|nil=>exact absurd (List.length_eq_zero_iff.mp hl.symm) yQ|cons _ _=>rfl
  have hsz:aI.toArray.size=aI.length:=List.size_toArray;have hmul:((aI.toArray.size:Nat):Int)*((k:Nat):Int)=((k*aI.length:Nat):Int):=by rw[hsz,Nat.mul_comm];exact(Int.natCast_mul _ _).symm
  refine call_meets PySem.F.slot_tuple_mul ⟨_,ho,rfl⟩ PySem.F.entry_tuple_mul (PySem.F.args_tuple_mul_2 _ _) (KC a ((k:Nat):Int) t aI.toArray n dd sl ?_ ?_ ?_ ?_ ?_ ?_) ⟨ho,?_⟩;·rw[Bool.or_eq_true,decide_eq_true_eq,decide_eq_true_eq];omega
  ·rw[hie,Bool.false_or,beq_iff_eq];omega
  ·rw[hie,Bool.or_false,decide_eq_true_eq];omega
  ·rw[hmul];omega
  ·unfold Builtin.Tuple.tupleTooMany;rw[hmul,decide_eq_true_eq,sizeLine_eq];omega
  ·rw[Int.toNat_natCast,ZU,List.size_toArray,hlen,sizeLine_eq];omega
  ·rw[Int.toNat_natCast,ZU];refine⟨.ref s.heap.objs.size,_,I.laid (t':=s.toks) (o:= .tup (List.replicate k xs).flatten) (λb ob q=>Heap.get?_push_of_some _ q) (Nat.le_refl _) ?_,rfl,q _ _ (ag (I.bJ.fresh (Nat.le_refl _)) _) av⟩;exact⟨by rw[len_rep,<-hl,sizeLine_eq];omega,_,r1.rep k,IsTup.new _ _⟩
theorem Ln(l:Addr)(t:Tok)(items:Array Value)(n:Nat)(dd:Option Addr)(sl:Array (Option Value))(hi:¬(items.isEmpty||(0:Int)==1)=true):Meets (Builtin.«tuple.__mul__» ⟨[.ref l, .int 0 t],[]⟩) (λ_ R s=>s.heap.get? l=some {cls:= .type "tuple",dict:=dd,data:= .seq items n,slots:=sl}/\R (.ok (.ret (.ref s.heap.objs.size))) {s with heap:=s.heap.push {cls:= .type "tuple",data:= .seq #[]}}):= .of_wp λprog w A R s h=>by obtain⟨hp,g,d,tk,os⟩:=s;obtain⟨hl,h⟩:=h;wp_walk;refine wpAny_ite_false (decide_eq_false hi) ?_;wp_walk;exact⟨_,rfl,h⟩
noncomputable def Ta:R2:=λx y H Q=>∃a k xs,x= .ref a/\y= .int ((k:Nat):Int)/\H a=some (.tup xs)/\xs≠[]/\k<=1000/\xs.length<=1000/\∀p H',aA H H'->H' p=some (.tup (List.replicate k xs).flatten)->Q (.ref p) H'
theorem N3{X:Cx}:jB X (binaryOp .Mult) Ta:=by
 intro pins s σ H x y v u Q I rx ry h;obtain⟨a,k,xs,rfl,rfl,hH,yQ,h2,h3,q⟩:=h;by_cases h1:1<=k;·exact Qk pins s σ H _ _ v u Q I rx ry ⟨a,k,xs,rfl,rfl,hH,yQ,h1,h2,h3,q⟩
 have k0:k=0:=by omega
 subst k0;cases rx;obtain⟨t,rfl⟩:=ry;obtain⟨aI,r1,p1,_⟩:=I.tuple (bN.of hH);have hl:aI.length=xs.length:=r1.length.symm;obtain⟨⟨cls,dd,data,sl⟩,ho,hc,n,hd⟩:=id p1;simp only at hc hd;subst hc hd;refine wpAny_binaryOp_repeat_ref (T:="tuple") (U:="int") (by decide) ⟨_,ho,rfl⟩ (λs'=>typeIs_int s' _ t) fX PySem.F.fills_int_mul PySem.F.slot_int_rmul kK PySem.F.slot_int_index.lookup (call_meets PySem.F.slot_int_rmul (typeIs_int s _ t) PySem.F.entry_int_rmul (PySem.F.args_int_rmul_2 _ _) (kZ _ t a aI.toArray n dd sl) ⟨ho,rfl,⟨_,ho,rfl⟩,?_⟩);have hie:aI.toArray.isEmpty=false:=by cases aI with|nil=>exact absurd (List.length_eq_zero_iff.mp hl.symm) yQ|cons _ _=>rfl
 refine call_meets PySem.F.slot_tuple_mul ⟨_,ho,rfl⟩ PySem.F.entry_tuple_mul (PySem.F.args_tuple_mul_2 _ _) (Ln a t aI.toArray n dd sl (by rw[hie];decide)) ⟨ho,?_⟩;refine⟨.ref s.heap.objs.size,_,I.laid (t':=s.toks) (o:= .tup []) (λb ob q=>Heap.get?_push_of_some _ q) (Nat.le_refl _) ?_,rfl,q _ _ (ag (I.bJ.fresh (Nat.le_refl _)) _) av⟩;exact⟨by show 0<=sizeLine;decide,[], .nil,IsTup.new _ _⟩
end L3
end
section
set_option maxHeartbeats 4000000
namespace K26
open PySem L2 L3 KM PyProof.Rows
seal L2.PE L2.PS L2.eM L2.PT L2.PW L2.PA L2.PG L2.kW L2.PI L2.PC L2.PO L2.nj L2.PK L3.lr L3.PH L3.PB
variable{P:Program}{w:World}{K:PySem.W.Frag}{mg:Str->Option Value}{base:Heap}{t:jo}
noncomputable abbrev Az:=List Nat×Str
noncomputable def Ze:V->Option Str| .str y=>some y|_=>none
noncomputable def eG(inb:Str->Bool)(d:D):Option Str:=Ze (cR inb d)
theorem mF(inb:Str->Bool)(d:D):(cR inb d= .ba/\eG inb d=none)\/∃y:Str,cR inb d= .str y/\eG inb d=some y/\y.length<=1000/\zw (.str y)=true:=by
 have st:∀y:Str,cR inb d= .str y->y.length<=1000->zw (.str y)=true->(cR inb d= .ba/\eG inb d=none)\/∃y:Str,cR inb d= .str y/\eG inb d=some y/\y.length<=1000/\zw (.str y)=true:=λy e h1 h2=> .inr ⟨y,e,by unfold eG;rw[e];rfl,h1,h2⟩;have nn:cR inb d= .ba->(cR inb d= .ba/\eG inb d=none)\/∃y:Str,cR inb d= .str y/\eG inb d=some y/\y.length<=1000/\zw (.str y)=true:=λe=> .inl ⟨e,by unfold eG;rw[e];rfl⟩;have cs:cR inb d= .ba\/∃y∈(["name","fun","like","first","second","zero","next"]:List Str),cR inb d= .str y:=by
  unfold cR;split
  ·unfold me Ho;repeat' split
   all_goals first|exact .inl rfl|exact .inr ⟨_,by decide+kernel,rfl⟩
  ·exact .inl rfl
 rcases cs with h|⟨y,hy,h⟩;·exact nn h
 ·have hb:y.length<=1000/\zw (.str y)=true:=by simp only[List.mem_cons,List.not_mem_nil,or_false]at hy;rcases hy with rfl|rfl|rfl|rfl|rfl|rfl|rfl<;>exact⟨by decide+kernel,by decide+kernel⟩
  exact st y h hb.1 hb.2
noncomputable def JI(r:Az):D:= .tup [V3 r.1, .str r.2]
theorem Iu{H:Hp}{i:Nat}{pl:List Nat}{a:Addr}{vs:List V}(h:H a=some (.tup (V.int i::vs)))(r:bu H (pl.map λi=>D.int (i:Nat)) vs):Rep H (V3 (i::pl)) (.ref a):=⟨a,_,rfl,h,_,_,rfl,rfl,r⟩
mutual noncomputable def b9(inb:Str->Bool):D->Option Az
 | .tup (.str x::ps)=>match eG inb (.tup (.str x::ps))with|some y=>some ([],y)|none=>if cQ x=true then none else eF inb 0 ps
 |_=>none noncomputable def eF(inb:Str->Bool):Nat->List D->Option Az|_,[]=>none|i,d::ds=>match b9 inb d with|some r=>some (i::r.1,r.2)|none=>eF inb (i+1) ds end
theorem qy(inb:Str->Bool)(x:Str)(ps:List D):b9 inb (.tup (.str x::ps))=match eG inb (.tup (.str x::ps))with|some y=>some ([],y)|none=>eF inb 0 (aH x ps):=by
 rw[b9];cases eG inb (.tup (.str x::ps))with
  |some y=>rfl
  |none=>
   show(if cQ x=true then none else eF inb 0 ps)=eF inb 0 (aH x ps);unfold aH;split;·rw[eF]
   ·rfl
noncomputable def FsV(H:Hp):Option Az->V->Prop|none,u=>u= .ba|some r,u=>Rep H (JI r) u
mutual theorem FR(inb:Str->Bool):∀(d:D)(r:Az),b9 inb d=some r->r.1.length<depth d/\r.2.length<=1000
 | .tup (.str x::ps),r,h=>by
  rw[b9]at h;rcases mF inb (.tup (.str x::ps))with⟨_,e⟩|⟨y,_,e,hy,_⟩
  ·rw[e]at h;have h:(if cQ x=true then none else eF inb 0 ps)=some r:=h;split at h;·cases h
   ·have :=A4 inb ps 0 r h;simp only[depth,az];omega
  ·rw[e]at h;have h:some (([]:List Nat),y)=some r:=h;cases h;exact⟨by simp only[depth];show 0<_;omega,hy⟩
 | .tup [],r,h=>by simp[b9]at h
 | .tup (.ba::_),r,h=>by simp[b9]at h
 | .tup (.bl _::_),r,h=>by simp[b9]at h
 | .tup (.int _::_),r,h=>by simp[b9]at h
 | .tup (.tup _::_),r,h=>by simp[b9]at h
 | .ba,r,h=>by simp[b9]at h
 | .bl _,r,h=>by simp[b9]at h
 | .int _,r,h=>by simp[b9]at h
 | .str _,r,h=>by simp[b9]at h theorem A4(inb:Str->Bool):∀(ds:List D)(i:Nat)(r:Az),eF inb i ds=some r->r.1.length<=az ds/\r.2.length<=1000|[],i,r,h=>by rw[eF]at h;cases h|d::ds,i,r,h=>by rw[eF]at h;simp only[az];cases e:b9 inb d with|some q=>rw[e]at h;have h:some ((i::q.1,q.2):Az)=some r:=h;cases h;have :=FR inb d q e;exact⟨by show q.1.length+1<=_;omega,this.2⟩|none=>rw[e]at h;have :=A4 inb ds (i+1) r h;exact⟨by omega,this.2⟩end
noncomputable def rj(n:Nat):Sp:=λvs H Q _=>∃(d:D)(v:V)(b:Addr)(aC:List (Key×V)),vs=[v, .ref b]/\Rep H d v/\Rz d n/\n<=100/\H b=some (.dK aC)/\∀(u:V)(H':Hp),aA H H'->FsV H' (b9 (iR aC) d) u->Q u H'
theorem dg:aK ["thing","book","rule","number","kid","step"] ["thing","book"] (ae dH):=⟨rfl,rfl,rfl,by decide+kernel,rfl,by decide+kernel,by decide+kernel⟩
theorem w6{n:Nat}(D:Df K mg "first_step" dH ["thing","book"])(M:Mg mg t)(dA:bI P w K mg b_ "rule_of" (1) ["thing","book"] vJ)(bc:bI P w K mg b_ "kids_of" (1) ["thing"] eh)(eU:bI P w K mg b_ "first_step" (n+3) ["thing","book"] (rj n)):bI P w K mg b_ "first_step" (n+4) ["thing","book"] (rj (n+1)):=by
 refine D.ok dg (λvs H Q E h=>?_) (λbase f cM A outer s H vs Q E hr h=>?_);·obtain⟨d,v,b,aC,rfl,_⟩:=h;rfl
 obtain⟨d,v,b,aC,rfl,r,rz,hn,hb,q⟩:=h;obtain⟨x,ps,k,rfl,wf,G7⟩:=mD rz.wf;have Xq:=Io wf;refine⟨_,(ah (aD (i:=2) dg.nd rfl (by first|exact Or.inl rfl|exact Or.inr rfl) (aO dA (hr.mono (by omega)) rfl aU (aa (pv 0) (aa (pv 1) af)))) (ah (bB (aG ye (pv 2) jD (aM _)) (aq (aB (ay (aa (ay af) (aa (pv 2) af))))) aN) (ah (fJ PassesOwn.never rfl (MX rfl M.Bx (aa (aO bc (hr.mono (by omega)) rfl aU (aa (pv 0) af)) af)) (ve (n:=2) rfl (cz (bA (i:=3) dg.nd rfl (by first|exact Or.inl rfl|exact Or.inr rfl)) (cz (bA (i:=4) dg.nd rfl (by first|exact Or.inl rfl|exact Or.inr rfl)) jQ))) (ah (aD (i:=5) dg.nd rfl (by first|exact Or.inl rfl|exact Or.inr rfl) (aO eU (hr.mono (by omega)) rfl aU (aa (pv 4) (aa (pv 1) af)))) (aq (bB (aG ye (pv 5) jD (aM _)) (aq (aB (ay (aa (bh pE (ay (aa (pv 3) af)) (aW aR (pv 5) aj (λ_ _=>rfl))) (aa (aW aR (pv 5) aj (λ_ _=>rfl)) af))))) aN)))) (aq (aB jD))))),?_⟩;try dsimp only[jb,c_]
 refine L5 ?_;intro _ _ _ _;refine⟨_,rfl,_,rfl,_,v,b,aC,rfl,r,rz.wf,hb,λH1 s1=>?_⟩;rw[qy]at q;rcases mF (iR aC) (.tup (.str x::ps))with⟨e1,e2⟩|⟨y,e1,e2,hy,_⟩
 ·rw[e1];rw[e2]at q;have q:∀(u:V)(H':Hp),aA H H'->FsV H' (eF (iR aC) 0 (aH x ps)) u->Q u H':=q;refine⟨_,rfl,rfl,_,rfl,aZ (λc=>absurd c (by decide)) (λ_=>?_)⟩;refine⟨_,rfl,x,ps,v,rfl,r.mono s1,G7,λp3 us H3 Vv s3 h3 r3=>?_⟩;have l3:=r3.length;have mY:=s1.trans s3;refine⟨p3,us,rfl,bQ.of h3,?_⟩;let CF:Nat->L2.St->Hp->Prop:=(λi aY H'=>∃(nv kv sv:Option V),aY=[some v,some (.ref b),some V.ba,nv,kv,sv]/\aA H3 H'/\eF (iR aC) 0 (aH x ps)=eF (iR aC) i ((aH x ps).drop i));refine iC us.length CF ?_ ?_ ?_;·exact⟨none,none,none,rfl,aA.refl _,rfl⟩
  ·rintro i aY H4 hi⟨nv,kv,sv,rfl,s4,hf⟩;obtain⟨di,J7⟩:∃di,(aH x ps)[i]?=some di:=⟨_,List.getElem?_eq_getElem (by omega)⟩;obtain⟨ui,Q4,UU⟩:=r3.get J7;have UU:=UU.mono s4;have hb4:H4 b=some (.dK aC):=s4 _ _ (mY _ _ hb);refine⟨⟨us,ui,bQ.of (s4 _ _ h3),Q4⟩,?_⟩;rintro x' H4'⟨p5,y,rfl,Qs,rfl,hy⟩;have hy:=hy us (bQ.of (s4 _ _ h3));rw[Q4]at hy;cases hy;have s5:=ag Qs (.tup [V.int (i:Nat),ui]);have rzi:=rz.kid J7;have hdr:(aH x ps).drop i=di::(aH x ps).drop (i+1):=by
    have hl:i<(aH x ps).length:=by omega
    rw[List.drop_eq_getElem_cons hl];rw[List.getElem?_eq_getElem hl]at J7;rw[Option.some.inj J7]
   rw[hdr,eF]at hf;refine⟨p5,_,rfl,bN.of av,rfl,_,_,rfl,_,_,rfl,rfl,?_⟩;refine⟨_,rfl,_,rfl,di,ui,b,aC,rfl,UU.mono s5,rzi,(by omega),s5 _ _ hb4,λu6 H6 s6 f6=>?_⟩;cases ef:b9 (iR aC) di with
    |none=>rw[ef]at f6 hf;cases(show u6=V.ba from f6);refine⟨_,rfl,rfl,_,rfl,aZ (λc=>absurd c (by decide)) (λ_=>?_)⟩;exact⟨_,_,_,rfl,s4.trans (s5.trans s6),hf⟩
    |some pj=>
     rw[ef]at f6 hf;have hf:eF (iR aC) 0 (aH x ps)=some (i::pj.1,pj.2):=hf;rw[hf]at q;obtain⟨wy,P_⟩:=FR _ _ _ ef;have hdd:=rzi.dp;obtain⟨bq,_,rfl,hbq,⟨v1,_,rfl,r1,⟨v2,_,rfl,⟨rfl,_⟩,rn⟩⟩⟩:=f6;cases(show _=[]from rn);obtain⟨bb,vs,rfl,G6,rb⟩:=r1;have lb:=rb.length;rw[List.length_map]at lb;refine⟨_,rfl,rfl,_,rfl,aZ (λ_=>?_) (λc=>absurd rfl c)⟩;refine⟨_,rfl,(by show 1<=sizeLine;decide),λp9 hp9=>?_⟩;have s9:=ag hp9 (.tup [V.int (i:Nat)]);refine⟨_,rfl,bq,_,_,_,rfl,rfl,bN.of (s9 _ _ hbq),aF (j:=0) rfl,p9,bb,_,_,rfl,rfl,av,s9 _ _ G6,?_,λp8 H8 s8 h8=>?_⟩;·rw[sizeLine_eq,List.length_singleton];omega
     have s98:=s9.trans s8;refine⟨_,rfl,bq,_,_,_,rfl,rfl,bN.of (s98 _ _ hbq),aF (j:=1) rfl,(by show 2<=sizeLine;decide),λp10 aaH=>?_⟩;have HS:=ag aaH (.tup [V.ref p8, .str pj.2]);exact q _ _ (mY.trans (s4.trans (s5.trans (s6.trans (s98.trans HS))))) ⟨p10,_,rfl,av,⟨_,_,rfl,Iu (HS _ _ h8) (rb.mono (s98.trans HS)),⟨_,_,rfl,⟨rfl,P_⟩,rfl⟩⟩⟩
  ·rintro aY H4⟨nv,kv,sv,rfl,s4,hf⟩;refine⟨⟨us,bQ.of (s4 _ _ h3),rfl⟩,?_⟩;rw[l3,List.drop_length,eF]at hf;rw[hf]at q;exact q _ _ (mY.trans s4) rfl
 ·rw[e1];rw[e2]at q;refine⟨_,rfl,rfl,_,rfl,aZ (λ_=>?_) (λc=>absurd rfl c)⟩;refine⟨(by show 0<=sizeLine;decide),λp0 TJ=>⟨_,rfl,(by show 2<=sizeLine;decide),λp1 lC=>?_⟩⟩;have t0:=ag TJ (.tup []);have t1:=ag lC (.tup [V.ref p0, .str y]);exact q _ _ (s1.trans (t0.trans t1)) ⟨p1,_,rfl,av,⟨_,_,rfl,⟨p0,[],rfl,t1 _ _ av,rfl⟩,⟨_,_,rfl,⟨rfl,hy⟩,rfl⟩⟩⟩
theorem kJ(D:Df K mg "first_step" dH ["thing","book"])(M:Mg mg t)(dA:bI P w K mg b_ "rule_of" (1) ["thing","book"] vJ)(bc:bI P w K mg b_ "kids_of" (1) ["thing"] eh):∀n:Nat,bI P w K mg b_ "first_step" (n+3) ["thing","book"] (rj n)|0=>bI.never D λvs H Q E⟨d,v,b,aC,_,_,h,_⟩=>absurd h.dp (Nat.not_lt_zero _)|n+1=>w6 D M dA bc (kJ D M dA bc n)
end K26
end
section
set_option maxHeartbeats 1000000
namespace K26
open PySem L2 L3 KM PyProof.Rows
end K26
end
section
set_option maxHeartbeats 4000000
namespace K26
open PySem L2 L3 KM PyProof.Rows
seal L2.PE L2.PS L2.eM L2.PT L2.PW L2.PA L2.PG L2.kW L2.PI L2.PC L2.PO L2.nj L2.PK L3.lr L3.PH L3.PB
variable{P:Program}{w:World}{K:PySem.W.Frag}{mg:Str->Option Value}{base:Heap}{t:jo}
theorem Hk(pl:List Nat):Qc (mU pl)=V3 pl:=by unfold Qc mU V3;rw[List.map_map];rfl
inductive Oj(B:Str->D):D->Str->D->Bool->Prop|fn{k bd o:D}:Wf bd->Wf o->depth bd<58->depth o<58->Rz (kC o 0 bd) 100->Oj B (.tup [.str "app", .tup [.str "fun",k,bd],o]) "fun" (kC o 0 bd) (bx (kC o 0 bd))|zero{k b s n:D}:Oj B (.tup [.str "rec",k,b,s,n]) "zero" b false|aaP{k x l:D}:Oj B (.tup [.str "carry",k,x,l]) "like" x false|next{k b s n:D}:Oj B (.tup [.str "rec",k,b,s, .tup [.str "next",n]]) "next" (.tup [.str "app", .tup [.str "app",s,n], .tup [.str "rec",k,b,s,n]]) false|first{k a b:D}:Oj B (.tup [.str "first", .tup [.str "pair",k,a,b]]) "first" a false|second{k a b:D}:Oj B (.tup [.str "second", .tup [.str "pair",k,a,b]]) "second" b false|name{y:Str}:Oj B (.tup [.str "name", .str y]) "name" (B y) false
noncomputable def Jq(H:Hp)(aC:List (Key×V))(B:Str->D):Prop:=∀y:Str,iR aC y=true->∃(q:Addr)(kv tv:V),dG aC (Sum.inr y:Key)=some (.ref q)/\H q=some (.tup [kv,tv])/\Rep H (B y) tv
theorem Jq.mono{H H':Hp}{aC:List (Key×V)}{B:Str->D}(h:Jq H aC B)(s:aA H H'):Jq H' aC B:=λy hy=>let⟨q,kv,tv,a,b,c⟩:=h y hy;⟨q,kv,tv,a,s _ _ b,c.mono s⟩
theorem I_{inb:Str->Bool}{y:Str}(h:cR inb (.tup [.str "name", .str y])= .str "name"):inb y=true:=by cases e:inb y with|true=>rfl|false=>simp[cR,me,Ho,e]at h
structure IK(H:Hp)(T1 T2:Addr):Prop where
 t1:jn H T1 BJ Bl
 t2:jn H T2 yb xl
theorem IK.mono{H H':Hp}{T1 T2:Addr}(h:IK H T1 T2)(s:aA H H'):IK H' T1 T2:=⟨h.t1.mono s,h.t2.mono s⟩
noncomputable def x_:Sp:=λvs H Q _=>∃(k b s n:D)(v:V),vs=[v]/\Rep H (.tup [.str "rec",k,b,s, .tup [.str "next",n]]) v/\∀(z:V)(H':Hp),aA H H'->Rep H' (.tup [.str "app", .tup [.str "app",s,n], .tup [.str "rec",k,b,s,n]]) z->Q z H'
theorem jk:aK ["thing","number"] ["thing"] (ae eV):=⟨rfl,rfl,rfl,by decide+kernel,rfl,by decide+kernel,by decide+kernel⟩
theorem zT(D:Df K mg "after_next" eV ["thing"])(M:Mg mg t):bI P w K mg b_ "after_next" (1) ["thing"] x_:=by
 refine D.ok jk (λvs H Q E h=>?_) (λbase f cM A outer s H vs Q E hr h=>?_);·obtain⟨k,b,s,n,v,rfl,_⟩:=h;rfl
 obtain⟨k,b,s,n,v,rfl,re,q⟩:=h;refine⟨_,(ah (aD (i:=1) jk.nd rfl (by first|exact Or.inl rfl|exact Or.inr rfl) (aW aR (aW aR (pv 0) aj (λ_ _=>rfl)) aj (λ_ _=>rfl))) (aq (aB (ay (aa ar (aa (ay (aa ar (aa (aW aR (pv 0) aj (λ_ _=>rfl)) (aa (pv 1) af)))) (aa (bh pE (ik EV (pv 0) eS (gI aj)) (ay (aa (pv 1) af))) af))))))),?_⟩;try dsimp only[jb,c_]
 refine wO ?_;intro _ _;obtain⟨a,us,rfl,ha,v0,us,rfl,⟨rfl,hx⟩,v1,us,rfl,r1,v2,us,rfl,r2,v3,us,rfl,r3,v4,us,rfl,r4,rn⟩:=re;cases(show us=[]from rn);obtain⟨c,ws,rfl,hc,w0,ws,rfl,⟨rfl,_⟩,w1,ws,rfl,rk,rn⟩:=id r4;cases(show ws=[]from rn);refine⟨_,rfl,a,_,_,_,rfl,rfl,bN.of ha,aF (j:=4) rfl,c,_,_,_,rfl,rfl,bN.of hc,aF (j:=1) rfl,?_⟩;refine⟨_,rfl,a,_,_,_,rfl,rfl,bN.of ha,aF (j:=3) rfl,_,rfl,(by show 3<=sizeLine;decide),λp1 lC=>?_⟩;have s1:=ag lC (.tup [V.str "app",v3,w1]);have rp1:Rep (upd H p1 (.tup [V.str "app",v3,w1])) (.tup [.str "app",s,n]) (.ref p1):=aE lC (rs dU (rs r3 (rs rk r0)));generalize upd H p1 (.tup [V.str "app",v3,w1])=H1 at s1 rp1⊢;refine⟨_,rfl,_,rfl,a,_,rfl,s1 _ _ ha,λp2 H2 s2 h2=>?_⟩;rw[show(4:Int)=((4:Nat):Int)from rfl,Fx]at h2;refine⟨_,rfl,(by show 1<=sizeLine;decide),λp3 Vv=>?_⟩;have s3:=ag Vv (.tup [w1]);refine⟨p2,p3,_,_,rfl,rfl,s3 _ _ h2,av,(by rw[sizeLine_eq];show 4+1<=16777216;decide),λp4 H4 s4 h4=>⟨(by show 3<=sizeLine;decide),λp5 Qs=>?_⟩⟩;have wV:=s2.trans (s3.trans s4);have Yu:=s1.trans wV;refine q _ _ (Yu.trans (ag Qs _)) (aE Qs (rs dU (rs (rp1.mono wV) (rs ⟨p4,_,rfl,h4,?_⟩ r0))));exact rs ⟨rfl,hx⟩ (rs (r1.mono Yu) (rs (r2.mono Yu) (rs (r3.mono Yu) (rs (rk.mono Yu) r0))))
noncomputable def E8(G T1 T2:Addr):Sp:=λvs H Q E=>∃(B:Str->D)(e e':D)(v:V)(r:Str)(b:Addr)(aC:List (Key×V))(g:Bool),vs=[v, .str r, .ref b]/\Rep H e v/\Oj B e r e' g/\IK H T1 T2/\H b=some (.dK aC)/\Jq H aC B/\cR (iR aC) e= .str r/\(∀(z:V)(H':Hp),aA H H'->g=false->Rep H' e' z->Q z H')/\(∀H',aA H H'->g=true->E (.ref G) none H')
theorem w8:aK ["thing","rule","book"] ["thing","rule","book"] (ae eO):=⟨rfl,rfl,rfl,by decide+kernel,rfl,by decide+kernel,by decide+kernel⟩
theorem zJ{T1 T2:Addr}(D:Df K mg "after_rule" eO ["thing","rule","book"])(M:Mg mg t)(NJ:bI P w K mg (eJ P w) "put_in" (126) ["thing","other","at"] (GP t.br T1 T2))(Ao:bI P w K mg b_ "after_next" (1) ["thing"] x_):bI P w K mg (eJ P w) "after_rule" (127) ["thing","rule","book"] (E8 t.br T1 T2):=by
 refine D.MD w8 (λvs H Q E h=>?_) (λbase f cM A outer s H vs Q E hr h=>?_);·obtain⟨B,e,e',v,r,b,aC,g,rfl,_⟩:=h;rfl
 obtain⟨B,e,e',v,r,b,aC,g,rfl,re,ha,hT,hb,hB,Z9,q,qe⟩:=h;have hu:=N5 hr;refine⟨_,(ah (bB (aG cj (pv 1) ar (aM _)) (aq (aB (aO NJ (hr.mono (by omega)) rfl cq (aa (aW aR (aW aR (pv 0) aj (λ_ _=>rfl)) aj (λ_ _=>rfl)) (aa (aW aR (pv 0) aj (λ_ _=>rfl)) (aa aj af)))))) aN) (ah (bB (aG cj (pv 1) ar (aM _)) (aq (aB (aO Ao (hr.mono (by omega)) rfl aU (aa (pv 0) af)))) aN) (ah (bB (aG cj (pv 1) ar (aM _)) (aq (aB (aW aR (aW aR (pv 0) aj (λ_ _=>rfl)) aj (λ_ _=>rfl)))) aN) (ah (bB (aG cj (pv 1) ar (aM _)) (aq (aB (aW aR (aW aR (pv 0) aj (λ_ _=>rfl)) aj (λ_ _=>rfl)))) aN) (ah (bB (aG cj (pv 1) ar (aM _)) (aq (aB (aW aR (PQ hu (pv 2) (aW aR (pv 0) aj (λ_ _=>rfl)) (λ_ _=>rfl)) aj (λ_ _=>rfl)))) aN) (aq (aB (aW aR (pv 0) aj (λ_ _=>rfl))))))))),?_⟩;try dsimp only[jb,c_]
 refine aay ?_;intro _ _ _ _ _ _;cases ha with|fn wb wo db dO rz=>obtain⟨a,us,rfl,ha,v0,us,rfl,⟨rfl,_⟩,v1,us,rfl,r1,v2,us,rfl,r2,rn⟩:=re;cases(show us=[]from rn);obtain⟨c,ws,rfl,hc,w0,ws,rfl,⟨rfl,_⟩,w1,ws,rfl,rk,w2,ws,rfl,rb,rn⟩:=r1;cases(show ws=[]from rn);refine⟨_,rfl,rfl,_,rfl,aZ (λ_=>?_) (λc=>absurd (decide_eq_true rfl) c)⟩;refine⟨_,rfl,a,_,_,_,rfl,rfl,bN.of ha,aF (j:=1) rfl,c,_,_,_,rfl,rfl,bN.of hc,aF (j:=2) rfl,_,rfl,a,_,_,_,rfl,rfl,bN.of ha,aF (j:=2) rfl,?_⟩;exact⟨_,_,w2,v2,0,rfl,⟨rb,r2,wb,wo,db,dO,rz,hT.t1,hT.t2⟩,q,qe⟩|zero=>obtain⟨a,us,rfl,ha,v0,us,rfl,⟨rfl,_⟩,v1,us,rfl,r1,v2,us,rfl,r2,v3,us,rfl,r3,v4,us,rfl,r4,rn⟩:=re;cases(show us=[]from rn);refine⟨_,rfl,rfl,_,rfl,aZ (λc=>absurd (of_decide_eq_true c) (by decide+kernel)) (λ_=>?_)⟩;refine⟨_,rfl,rfl,_,rfl,aZ (λc=>absurd (of_decide_eq_true c) (by decide+kernel)) (λ_=>?_)⟩;refine⟨_,rfl,rfl,_,rfl,aZ (λc=>absurd (of_decide_eq_true c) (by decide+kernel)) (λ_=>?_)⟩;refine⟨_,rfl,rfl,_,rfl,aZ (λc=>absurd (of_decide_eq_true c) (by decide+kernel)) (λ_=>?_)⟩;refine⟨_,rfl,rfl,_,rfl,aZ (λc=>absurd (of_decide_eq_true c) (by decide+kernel)) (λ_=>?_)⟩;exact⟨_,rfl,a,_,_,_,rfl,rfl,bN.of ha,aF (j:=2) rfl,q _ H (aA.refl H) rfl r2⟩|aaP=>obtain⟨a,us,rfl,ha,v0,us,rfl,⟨rfl,_⟩,v1,us,rfl,r1,v2,us,rfl,r2,v3,us,rfl,r3,rn⟩:=re;cases(show us=[]from rn);refine⟨_,rfl,rfl,_,rfl,aZ (λc=>absurd (of_decide_eq_true c) (by decide+kernel)) (λ_=>?_)⟩;refine⟨_,rfl,rfl,_,rfl,aZ (λc=>absurd (of_decide_eq_true c) (by decide+kernel)) (λ_=>?_)⟩;refine⟨_,rfl,rfl,_,rfl,aZ (λc=>absurd (of_decide_eq_true c) (by decide+kernel)) (λ_=>?_)⟩;refine⟨_,rfl,rfl,_,rfl,aZ (λc=>absurd (of_decide_eq_true c) (by decide+kernel)) (λ_=>?_)⟩;refine⟨_,rfl,rfl,_,rfl,aZ (λc=>absurd (of_decide_eq_true c) (by decide+kernel)) (λ_=>?_)⟩;exact⟨_,rfl,a,_,_,_,rfl,rfl,bN.of ha,aF (j:=2) rfl,q _ H (aA.refl H) rfl r2⟩|next=>refine⟨_,rfl,rfl,_,rfl,aZ (λc=>absurd (of_decide_eq_true c) (by decide+kernel)) (λ_=>?_)⟩;refine⟨_,rfl,rfl,_,rfl,aZ (λ_=>?_) (λc=>absurd (decide_eq_true rfl) c)⟩;exact⟨_,rfl,_,_,_,_,v,rfl,re,λz H' s' r'=>q z H' s' rfl r'⟩|first=>obtain⟨a,us,rfl,ha,v0,us,rfl,⟨rfl,_⟩,v1,us,rfl,r1,rn⟩:=re;cases(show us=[]from rn);obtain⟨c,ws,rfl,hc,w0,ws,rfl,⟨rfl,_⟩,w1,ws,rfl,rk,w2,ws,rfl,rb,w3,ws,rfl,rc,rn⟩:=r1;cases(show ws=[]from rn);refine⟨_,rfl,rfl,_,rfl,aZ (λc=>absurd (of_decide_eq_true c) (by decide+kernel)) (λ_=>?_)⟩;refine⟨_,rfl,rfl,_,rfl,aZ (λc=>absurd (of_decide_eq_true c) (by decide+kernel)) (λ_=>?_)⟩;refine⟨_,rfl,rfl,_,rfl,aZ (λ_=>?_) (λc=>absurd (decide_eq_true rfl) c)⟩;exact⟨_,rfl,a,_,_,_,rfl,rfl,bN.of ha,aF (j:=1) rfl,c,_,_,_,rfl,rfl,bN.of hc,aF (j:=2) rfl,q _ H (aA.refl H) rfl rb⟩|second=>obtain⟨a,us,rfl,ha,v0,us,rfl,⟨rfl,_⟩,v1,us,rfl,r1,rn⟩:=re;cases(show us=[]from rn);obtain⟨c,ws,rfl,hc,w0,ws,rfl,⟨rfl,_⟩,w1,ws,rfl,rk,w2,ws,rfl,rb,w3,ws,rfl,rc,rn⟩:=r1;cases(show ws=[]from rn);refine⟨_,rfl,rfl,_,rfl,aZ (λc=>absurd (of_decide_eq_true c) (by decide+kernel)) (λ_=>?_)⟩;refine⟨_,rfl,rfl,_,rfl,aZ (λc=>absurd (of_decide_eq_true c) (by decide+kernel)) (λ_=>?_)⟩;refine⟨_,rfl,rfl,_,rfl,aZ (λc=>absurd (of_decide_eq_true c) (by decide+kernel)) (λ_=>?_)⟩;refine⟨_,rfl,rfl,_,rfl,aZ (λ_=>?_) (λc=>absurd (decide_eq_true rfl) c)⟩;exact⟨_,rfl,a,_,_,_,rfl,rfl,bN.of ha,aF (j:=1) rfl,c,_,_,_,rfl,rfl,bN.of hc,aF (j:=3) rfl,q _ H (aA.refl H) rfl rc⟩|name=>rename_i y;obtain⟨a,us,rfl,ha,v0,us,rfl,⟨rfl,_⟩,v1,us,rfl,⟨rfl,hy⟩,rn⟩:=re;cases(show us=[]from rn);obtain⟨q1,kv,tv,e1,e2,e3⟩:=hB y (I_ Z9);refine⟨_,rfl,rfl,_,rfl,aZ (λc=>absurd (of_decide_eq_true c) (by decide+kernel)) (λ_=>?_)⟩;refine⟨_,rfl,rfl,_,rfl,aZ (λc=>absurd (of_decide_eq_true c) (by decide+kernel)) (λ_=>?_)⟩;refine⟨_,rfl,rfl,_,rfl,aZ (λc=>absurd (of_decide_eq_true c) (by decide+kernel)) (λ_=>?_)⟩;refine⟨_,rfl,rfl,_,rfl,aZ (λc=>absurd (of_decide_eq_true c) (by decide+kernel)) (λ_=>?_)⟩;refine⟨_,rfl,rfl,_,rfl,aZ (λ_=>?_) (λc=>absurd (decide_eq_true rfl) c)⟩;exact⟨_,rfl,_,rfl,a,_,_,_,rfl,rfl,bN.of ha,aF (j:=1) rfl,b,_,rfl,(.inl ⟨aC,Sum.inr y, .inl hb,rfl,e1.symm⟩),q1,_,_,_,rfl,rfl,bN.of e2,aF (j:=1) rfl,q _ H (aA.refl H) rfl e3⟩
structure Jb(inb:Str->Bool)(B:Str->D)(d:D)(pl:List Int)(r:Str)(e':D)(g:Bool):Prop where
 ex:∃e,goto d pl=some e/\Wf e/\cR inb e= .str r/\Oj B e r e' g
 wf:Wf d
 ln:pl.length<100
 rz:Rz (putD d pl e') 100
noncomputable def zF(G T1 T2:Addr):Sp:=λvs H Q E=>∃(B:Str->D)(d e':D)(v pw:V)(pl:List Int)(b:Addr)(aC:List (Key×V))(r:Str)(g:Bool),vs=[v,pw, .ref b]/\Rep H d v/\Rep H (Qc pl) pw/\H b=some (.dK aC)/\Jq H aC B/\Jb (iR aC) B d pl r e' g/\IK H T1 T2/\(∀(z:V)(H':Hp),aA H H'->(g||bx (putD d pl e'))=false->Rep H' (putD d pl e') z->Q z H')/\(∀H',aA H H'->(g||bx (putD d pl e'))=true->E (.ref G) none H')
theorem jC:aK ["thing","place","book","here","rule"] ["thing","place","book"] (ae i_):=⟨rfl,rfl,rfl,by decide+kernel,rfl,by decide+kernel,by decide+kernel⟩
theorem Jf{T1 T2:Addr}(D:Df K mg "stepped" i_ ["thing","place","book"])(M:Mg mg t)(vD:lh K t.eK)(ju:bI P w K mg (eJ P w) "at_place" (3) ["thing","place"] (Ua t.bz))(dA:bI P w K mg b_ "rule_of" (1) ["thing","book"] vJ)(JG:bI P w K mg (eJ P w) "with_at" (105) ["thing","place","new"] (QR t.bz t.br 100))(zI:bI P w K mg (eJ P w) "after_rule" (127) ["thing","rule","book"] (E8 t.br T1 T2)):bI P w K mg (eJ P w) "stepped" (128) ["thing","place","book"] (zF t.br T1 T2):=by
 refine D.MD jC (λvs H Q E h=>?_) (λbase f cM A outer s H vs Q E hr h=>?_);·obtain⟨B,d,e',v,pw,pl,b,aC,r,g,rfl,_⟩:=h;rfl
 obtain⟨B,d,e',v,pw,pl,b,aC,r,g,rfl,rd,rp,hb,hB,ok,hT,q,qe⟩:=h;obtain⟨⟨e,hg,we,V2,ha⟩,wd,hl,rz⟩:=ok;refine⟨_,(ah (aD (i:=3) jC.nd rfl (by first|exact Or.inl rfl|exact Or.inr rfl) (aO ju (hr.mono (by omega)) rfl cq (aa (pv 0) (aa (pv 1) af)))) (ah (aD (i:=4) jC.nd rfl (by first|exact Or.inl rfl|exact Or.inr rfl) (aO dA (hr.mono (by omega)) rfl aU (aa (pv 3) (aa (pv 2) af)))) (ah (bB (aG Sk (pv 4) jD (aM _)) (aq (ip (G:=(λH'=>E (.ref t.eK) none H')) vD M.g_NoStep (aa ar af) (λpins σ H s e h' I m q=>j4 I m q))) aN) (aq (aB (aO JG (hr.mono (by omega)) rfl cq (aa (pv 0) (aa (pv 1) (aa (aO zI (hr.mono (by omega)) rfl cq (aa (pv 3) (aa (pv 4) (aa (pv 2) af)))) af))))))))),?_⟩;try dsimp only[jb,c_]
 refine L5 ?_;intro _ _ _ _;refine⟨_,rfl,_,rfl,d,v,pl,pw,rfl,rd,wd,rp,λe1 u H1 s1 g1 r1=>?_,λH1 s1 g1=>by rw[hg]at g1;cases g1⟩;rw[hg]at g1;cases g1;refine⟨_,rfl,_,rfl,e,u,b,aC,rfl,r1,we,s1 _ _ hb,λH2 s2=>?_⟩;rw[V2];refine⟨_,rfl,rfl,_,rfl,aZ (λc=>absurd c (by simp)) (λ_=>?_)⟩;have CB:=s1.trans s2;refine⟨_,rfl,_,rfl,_,rfl,_,rfl,_,rfl,B,e,e',u,r,b,aC,g,rfl,r1.mono s2,ha,hT.mono CB,CB _ _ hb,hB.mono CB,V2,λz H3 s3 Jy r3=>?_,λH3 s3 Qy=>qe H3 (CB.trans s3) (by rw[Qy];rfl)⟩;have mY:=CB.trans s3;refine⟨d,v,pl,pw,e',z,rfl,rd.mono mY,wd,rp.mono mY,r3,hl,λ_=>rz,λu' H4 s4 _ hv r4=>q u' H4 (mY.trans s4) (by rw[Jy];exact hv) r4,(λH4 s4 h4=>by rw[hg]at h4;cases h4),λH4 s4 _ hv=>qe H4 (mY.trans s4) (by rw[Jy];exact hv)⟩
noncomputable def Ks(G T1 T2:Addr):Sp:=λvs H Q E=>∃(B:Str->D)(d e':D)(v pw:V)(pl:List Int)(b lg row:Addr)(aC:List (Key×V))(r:Str)(g:Bool),vs=[v, .ref lg, .ref b]/\Rep H d v/\H lg=some (.lst [.ref row])/\H row=some (.tup [pw, .str r])/\Rep H (Qc pl) pw/\H b=some (.dK aC)/\Jq H aC B/\Jb (iR aC) B d pl r e' g/\IK H T1 T2/\(∀(z:V)(H':Hp),aA H H'->(g||bx (putD d pl e'))=false->Rep H' (putD d pl e') z->Q z H')/\(∀H',aA H H'->(g||bx (putD d pl e'))=true->E (.ref G) none H')
theorem fU:aK ["thing","log","book","here","place","rule"] ["thing","log","book"] (ae kx):=⟨rfl,rfl,rfl,by decide+kernel,rfl,by decide+kernel,by decide+kernel⟩
theorem M6{T1 T2:Addr}(D:Df K mg "walked" kx ["thing","log","book"])(M:Mg mg t)(vD:lh K t.eK)(ju:bI P w K mg (eJ P w) "at_place" (3) ["thing","place"] (Ua t.bz))(dA:bI P w K mg b_ "rule_of" (1) ["thing","book"] vJ)(gg:bI P w K mg (eJ P w) "stepped" (128) ["thing","place","book"] (zF t.br T1 T2)):bI P w K mg (eJ P w) "walked" (129) ["thing","log","book"] (Ks t.br T1 T2):=by
 refine D.MD fU (λvs H Q E h=>?_) (λbase f cM A outer s H vs Q E hr h=>?_);·obtain⟨B,d,e',v,pw,pl,b,lg,row,aC,r,g,rfl,_⟩:=h;rfl
 obtain⟨B,d,e',v,pw,pl,b,lg,row,aC,r,g,rfl,rd,Pf,R1,rp,hb,hB,ok,hT,q,qe⟩:=h;obtain⟨⟨e,hg,we,V2,ha⟩,wd,hl,rz⟩:=id ok;refine⟨_,(ah (aD (i:=3) fU.nd rfl (by first|exact Or.inl rfl|exact Or.inr rfl) (pv 0)) (ah (fJ NO rfl (kR (pv 1)) (ve (n:=2) rfl (cz (bA (i:=4) fU.nd rfl (by first|exact Or.inl rfl|exact Or.inr rfl)) (cz (bA (i:=5) fU.nd rfl (by first|exact Or.inl rfl|exact Or.inr rfl)) jQ))) (ah (bB (aG Q9 (aO dA (hr.mono (by omega)) rfl aU (aa (aO ju (hr.mono (by omega)) rfl cq (aa (pv 3) (aa (pv 4) af))) (aa (pv 2) af))) (pv 5) (aM _)) (aq (ip (G:=(λH'=>E (.ref t.eK) none H')) vD M.g_NoStep (aa ar af) (λpins σ H s e h' I m q=>j4 I m q))) aN) (aq (aD (i:=3) fU.nd rfl (by first|exact Or.inl rfl|exact Or.inr rfl) (aO gg (hr.mono (by omega)) rfl cq (aa (pv 3) (aa (pv 4) (aa (pv 2) af)))))))) (aq (aB (pv 3))))),?_⟩;try dsimp only[jb,c_]
 refine Dk ?_;intro _ _ _;refine⟨_,rfl,_,rfl,lg,rfl,⟨_,bQ.of Pf⟩,?_⟩;let CF:Nat->L2.St->Hp->Prop:=(λj aY H'=>∃(u:V)(xv yv:Option V),aY=[some v,some (.ref lg),some (.ref b),some u,xv,yv]/\aA H H'/\Rep H' (if j=0 then d else putD d pl e') u/\(0<j->(g||bx (putD d pl e'))=false));refine iC 1 CF ?_ ?_ ?_;·exact⟨v,none,none,rfl,aA.refl _,rd,λh=>absurd h (by decide)⟩
 ·rintro j aY H1 hj⟨u,xv,yv,rfl,s1,r1,_⟩;have j0:j=0:=by omega
  subst j0;rw[if_pos rfl]at r1;refine⟨⟨_,_,bQ.of (s1 _ _ Pf),rfl⟩,?_⟩;rintro x' H2⟨rfl,hy⟩;have hy:=hy _ (bQ.of (s1 _ _ Pf));cases hy;refine⟨row,_,rfl,bN.of (s1 _ _ R1),rfl,_,_,rfl,_,_,rfl,rfl,?_⟩;refine⟨_,rfl,_,rfl,d,u,pl,pw,rfl,r1,wd,rp.mono s1,λe1 u2 H3 s3 g1 r3=>?_,λH3 s3 g1=>by rw[hg]at g1;cases g1⟩;rw[hg]at g1;cases g1;have mY:=s1.trans s3;refine⟨_,rfl,e,u2,b,aC,rfl,r3,we,mY _ _ hb,λH4 s4=>?_⟩;rw[V2];refine⟨_,rfl,rfl,_,rfl,aZ (λc=>absurd c (by simp)) (λ_=>?_)⟩;have wV:=mY.trans s4;refine⟨_,rfl,_,rfl,_,rfl,B,d,e',u,pw,pl,b,aC,r,g,rfl,r1.mono (s3.trans s4),rp.mono wV,wV _ _ hb,hB.mono wV,ok,hT.mono wV,λz H5 s5 Jy r5=>?_,λH5 s5 Qy=>qe H5 (wV.trans s5) Qy⟩;exact⟨z,_,_,rfl,wV.trans s5,r5,λ_=>Jy⟩
 ·rintro aY H1⟨u,xv,yv,rfl,s1,r1,Jy⟩;refine⟨⟨_,bQ.of (s1 _ _ Pf),Nat.le_refl _⟩,?_⟩;exact⟨_,rfl,q u H1 s1 (Jy (by decide)) r1⟩
inductive Out|ok(d:D)|great|Ue
noncomputable def Run(inb:Str->Bool)(B:Str->D)(res:Out):Nat->List Az->D->Prop|f,[],d=>(b9 inb d=none/\res= .ok d)\/∃r:Az,b9 inb d=some r/\((f=0/\res= .Ue)\/(0<f/\res= .great/\∃(e':D)(g:Bool),Jb inb B d (mU r.1) r.2 e' g/\(g||bx (putD d (mU r.1) e'))=true))|f,r::rs,d=>0<f/\∃(e':D)(g:Bool),b9 inb d=some r/\Jb inb B d (mU r.1) r.2 e' g/\(g||bx (putD d (mU r.1) e'))=false/\Run inb B res (f-1) rs (putD d (mU r.1) e')
noncomputable def Bz(G Dy T1 T2:Addr):Sp:=λvs H Q E=>∃(B:Str->D)(d:D)(v:V)(fuel:Nat)(b:Addr)(aC:List (Key×V))(rs:List Az)(res:Out),vs=[v, .int (fuel:Nat), .ref b]/\Rep H d v/\Rz d 60/\H b=some (.dK aC)/\Jq H aC B/\Run (iR aC) B res fuel rs d/\rs.length<=1000/\IK H T1 T2/\(∀(d':D)(p lg:Addr)(us:List V)(u:V)(H':Hp),res= .ok d'->aA H H'->H' p=some (.tup [u, .ref lg])->H' lg=some (.lst us)->bu H' (rs.map JI) us->Rep H' d' u->Q (.ref p) H')/\(res= .great->∀H',aA H H'->E (.ref G) none H')/\(res= .Ue->∀H',aA H H'->E (.ref Dy) none H')
theorem LI{H:Hp}{d:D}{v:V}(h:Rep H d v):bu H [d] [v]:=⟨v,[],rfl,h,rfl⟩
theorem JX{d:D}(h:bx d=false):depth d<=40/\cf d<=600:=by have h:(cE d||c8 d)=false:=h;rw[Bool.or_eq_false_iff]at h;have h:=h.1;unfold cE at h;simp at h;omega
theorem eY:aK ["thing","fuel","book","here","log","step"] ["thing","fuel","book"] (ae kT):=⟨rfl,rfl,rfl,by decide+kernel,rfl,by decide+kernel,by decide+kernel⟩
theorem NZ{T1 T2:Addr}(D:Df K mg "normal" kT ["thing","fuel","book"])(M:Mg mg t)(Xx:lh K t.jF)(eU:bI P w K mg b_ "first_step" (63) ["thing","book"] (rj 60))(gg:bI P w K mg (eJ P w) "stepped" (128) ["thing","place","book"] (zF t.br T1 T2)):bI P w K mg (eJ P w) "normal" (129) ["thing","fuel","book"] (Bz t.br t.jF T1 T2):=by
 refine D.MD eY (λvs H Q E h=>?_) (λbase f cM A outer s H vs Q E hr h=>?_);·obtain⟨B,d,v,fuel,b,aC,rs,res,rfl,_⟩:=h;rfl
 obtain⟨B,d,v,fuel,b,aC,rs,res,rfl,rd,rz,hb,hB,Pc,Z9,hT,q,qe,qd⟩:=h;refine⟨_,(ah (aD (i:=3) eY.nd rfl (by first|exact Or.inl rfl|exact Or.inr rfl) (pv 0)) (ah (aD (i:=4) eY.nd rfl (by first|exact Or.inl rfl|exact Or.inr rfl) (fK af)) (ah (aD (i:=5) eY.nd rfl (by first|exact Or.inl rfl|exact Or.inr rfl) (aO eU (hr.mono (by omega)) rfl aU (aa (pv 3) (aa (pv 2) af)))) (ah (KH NO (aG ye (pv 5) jD (aM _)) (ah (bB (aG MC (bg bo rfl M.gf eA (aa (pv 4) af)) (pv 1) (aM _)) (aq (ip (G:=(λH'=>E (.ref t.jF) none H')) Xx M.g_Dry (aa ar af) (λpins σ H s e h' I m q=>j4 I m q))) aN) (ah (aD (i:=3) eY.nd rfl (by first|exact Or.inl rfl|exact Or.inr rfl) (aO gg (hr.mono (by omega)) rfl cq (aa (pv 3) (aa (aW aR (pv 5) aj (λ_ _=>rfl)) (aa (pv 2) af))))) (ah (DZ (BK PySem.F.plainAttrs_list PySem.F.slot_list_append PySem.F.type_list_append lN (pv 4) (aa (pv 5) af))) (aq (aD (i:=5) eY.nd rfl (by first|exact Or.inl rfl|exact Or.inr rfl) (aO eU (hr.mono (by omega)) rfl aU (aa (pv 3) (aa (pv 2) af))))))))) (aq (aB (ay (aa (pv 3) (aa (pv 4) af))))))))),?_⟩;try dsimp only[jb,c_]
 refine OM ?_;intro _ _ _ _ _;refine⟨_,rfl,(by show 0<=sizeLine;decide),λlg Pf=>?_⟩;have t1:=ag Pf (.lst []);have h1:(upd H lg (.lst [])) lg=some (.lst []):=av;generalize upd H lg (.lst [])=H1 at t1 h1⊢;refine⟨_,rfl,_,rfl,d,v,b,aC,rfl,rd.mono t1,rz,by decide,t1 _ _ hb,λsv H2 s2 f2=>?_⟩;let Iw:Nat->L2.St->Hp->Prop:=λm aY H'=>∃(dn rest:List Az)(dh:KM.D)(u sv:V)(us:List V)(fl:Nat),aY=[some v,some (.int (fuel:Nat)),some (.ref b),some u,some (.ref lg),some sv]/\m=rest.length/\aA H H'/\Rep H' dh u/\Rz dh 60/\H' lg=some (.lst us)/\bu H' (dn.map JI) us/\Run (iR aC) B res fl rest dh/\dn.length+fl=fuel/\rs=dn++rest/\FsV H' (b9 (iR aC) dh) sv;refine⟨Iw,⟨_,[],rs,d,v,sv,[],fuel,rfl,rfl,t1.trans s2,rd.mono (t1.trans s2),rz,s2 _ _ h1,rfl,Pc,Nat.zero_add _,rfl,f2⟩,?_⟩;clear t1 h1 s2 f2 rd rz Pc;rintro m aY H3⟨dn,rest,dh,u,sv,us,fl,rfl,rfl,s3,r3,rz3,h3,rl3,Jo,efl,ers,f3⟩;have lus:=rl3.length;rw[List.length_map]at lus;have lrs:rs.length=dn.length+rest.length:=by rw[ers,List.length_append]
 cases ef:b9 (iR aC) dh with
  |none=>
   rw[ef]at f3;cases(show sv=V.ba from f3);refine⟨_,rfl,rfl,_,rfl,aZ (λc=>absurd c (by decide)) (λ_=>?_)⟩;refine⟨_,rfl,_,rfl,(by show 2<=sizeLine;decide),λp hp=>?_⟩;have tp:=ag hp (.tup [u, .ref lg]);cases rest with
    |cons r Y5=>obtain⟨_,e',g,e0,_⟩:=Jo;rw[ef]at e0;cases e0
    |nil=>
     rcases Jo with⟨_,e0⟩|⟨r,e0,_⟩;·rw[List.append_nil]at ers;rw[<-ers]at rl3;exact q dh p lg us u _ e0 (s3.trans tp) av (tp _ _ h3) (rl3.mono tp) (r3.mono tp)
     ·rw[ef]at e0;cases e0
  |some r=>
   rw[ef]at f3;obtain⟨bq,_,rfl,hbq,⟨v1,_,rfl,r1,⟨v2,_,rfl,⟨rfl,P_⟩,rn⟩⟩⟩:=id f3;cases(show _=[]from rn);refine⟨_,rfl,rfl,_,rfl,aZ (λ_=>?_) (λc=>absurd rfl c)⟩;have rpl:Rep H3 (Qc (mU r.1)) v1:=by rw[Hk];exact r1
   have hb3:=s3 _ _ hb;refine⟨λaY H'=>∃m',m'<rest.length/\Iw m' aY H',λaY H' h=>h,?_⟩;refine⟨_,rfl,lg,us,rfl, .inl (bQ.of h3),_,rfl,_,_,rfl,rfl,_,rfl,aZ (λc=>?_) (λc=>?_)⟩
   ·have c:((fuel:Nat):Int)<=((us.length:Nat):Int):=of_decide_eq_true c;cases rest with
     |cons r' Y5=>have :=Jo.1;omega
     |nil=>
      rcases Jo with⟨e0,_⟩|⟨r',e0,⟨_,er⟩|⟨h0,_⟩⟩;·rw[ef]at e0;cases e0
      ·exact⟨by decide,qd er H3 s3⟩
      ·omega
   have c:¬((fuel:Nat):Int)<=((us.length:Nat):Int):=of_decide_eq_false (Bool.eq_false_iff.mpr c);refine⟨_,rfl,_,rfl,bq,_,_,_,rfl,rfl,bN.of hbq,aF (j:=0) rfl,_,rfl,?_⟩;cases rest with
    |nil=>
     rcases Jo with⟨e0,_⟩|⟨r',e0,⟨h0,_⟩|⟨_,acv,e',g,ok,Qy⟩⟩;·rw[ef]at e0;cases e0
     ·omega
     ·rw[ef]at e0;cases e0;exact⟨B,dh,e',u,v1,mU r.1,b,aC,r.2,g,rfl,r3,rpl,hb3,hB.mono s3,ok,hT.mono s3,(λz H4 s4 Jy r4=>by rw[Qy]at Jy;cases Jy),λH4 s4 _=>qe acv H4 (s3.trans s4)⟩
    |cons r' Y5=>
     obtain⟨hfl,e',g,e0,ok,Jy,aa2⟩:=Jo;rw[ef]at e0;cases e0;refine⟨B,dh,e',u,v1,mU r.1,b,aC,r.2,g,rfl,r3,rpl,hb3,hB.mono s3,ok,hT.mono s3,λz H4 s4 _ r4=>?_,λH4 s4 Qy=>by rw[Jy]at Qy;cases Qy⟩;have hg2:bx (putD dh (mU r.1) e')=false:=by rw[Bool.or_eq_false_iff]at Jy;exact Jy.2
     obtain⟨k1,k2⟩:=JX hg2;have rz4:Rz (putD dh (mU r.1) e') 60:=⟨ok.rz.wf,by omega,by omega⟩;have h4:=s4 _ _ h3;have sv4:Rep H4 (JI r) (.ref bq):=Rep.mono s4 f3;refine⟨_,rfl, .inl ⟨rfl,_,bQ.of h4⟩,_,rfl,lg,us,_,rfl,rfl,h4,(by rw[sizeLine_eq];omega),?_⟩;have s34:=s3.trans s4;have acm:H lg=none:=Pf;have sH:aA H (upd H4 lg (.lst (us++[.ref bq]))):=λa o ha=>by rw[aX (aQ ha acm)];exact s34 _ _ ha
     refine⟨_,rfl,_,rfl,_,z,b,aC,rfl,r4.w_ h4,rz4,by decide,sH _ _ hb,λsv' H6 s6 f6=>?_⟩;refine⟨_,by show Y5.length<Y5.length+1;omega,dn++[r],Y5,_,z,sv',us++[.ref bq],fl-1,rfl,rfl,sH.trans s6,(r4.w_ h4).mono s6,rz4,s6 _ _ av,?_,aa2,by rw[List.length_append,List.length_singleton];omega,by rw[ers,List.append_assoc];rfl,f6⟩;rw[List.map_append];refine bu.mono s6 ?_;exact((rl3.mono s4).append (LI sv4)).w_ h4
end K26
end
section
set_option maxHeartbeats 1000000
namespace K26
open PySem L2 L3 KM PyProof.Rows
seal L2.PE L2.PS L2.eM L2.PT L2.PW L2.PA L2.PG L2.kW L2.PI L2.PC L2.PO L2.nj L2.PK L3.lr
variable{P:Program}{w:World}{K:PySem.W.Frag}{mg:Str->Option Value}{base:Heap}{t:jo}
structure Tp(K:PySem.W.Frag)(a p:Addr)(ns:List Int)(H:Hp)(i:Int):Prop where
 src:(a≠p/\Rd H a (.lst (ns.map V.int)))\/∀H':Hp,bQ K H' a (ns.map V.int)
 len:ns.length<=63
 lF:H p=some (.lst [.int i])
 i0:0<=i
theorem Tp.scr{a p:Addr}{ns:List Int}{H:Hp}{i:Int}(T:Tp K a p ns H i)(H':Hp)(s:cJ p H H'):bQ K H' a (ns.map V.int):=by
 rcases T.src with⟨n,h|⟨o,h⟩⟩|h;·exact .inl (.inl (s _ _ n h))
 ·exact .inl (.inr ⟨o,s _ _ n h⟩)
 ·exact h H'
theorem Tp.next{a p:Addr}{ns:List Int}{H H':Hp}{i j:Int}(T:Tp K a p ns H i)(s:cJ p H H')(h:H' p=some (.lst [.int j]))(hj:0<=j):Tp K a p ns H' j:=⟨by
 rcases T.src with⟨n,h|⟨o,h⟩⟩|h;·exact .inl ⟨n, .inl (s _ _ n h)⟩
 ·exact .inl ⟨n, .inr ⟨o,s _ _ n h⟩⟩
 ·exact .inr h,T.len,h,hj⟩
theorem Tp.mono{a p:Addr}{ns:List Int}{H H':Hp}{i:Int}(T:Tp K a p ns H i)(s:aA H H'):Tp K a p ns H' i:=T.next s.x (s _ _ T.lF) T.i0
noncomputable def CZ(K:PySem.W.Frag):Sp:=λvs H Q _=>∃(a p:Addr)(ns:List Int)(i m:Int),vs=[.ref a, .ref p, .int m]/\Tp K a p ns H i/\i<2^60/\0<m/\∀(z:Int)(H':Hp),0<=z->z<m->cJ p H H'->H' p=some (.lst [.int (i+1)])->Q (.int z) H'
theorem fm:aK ["_law_script","_law_tape","_law_many","_law_seed","_law_cell"] ["_law_script","_law_tape","_law_many"] (ae gA):=⟨rfl,rfl,rfl,by decide+kernel,rfl,by decide+kernel,by decide+kernel⟩
theorem DQ(D:Df K mg "_law_draw" gA ["_law_script","_law_tape","_law_many"])(M:Mg mg t):bI P w K mg b_ "_law_draw" (1) ["_law_script","_law_tape","_law_many"] (CZ K):=by
 refine D.ok fm (λvs H Q E h=>?_) (λbase f cM A outer s H vs Q E hr h=>?_);·obtain⟨a,p,ns,i,m,rfl,_⟩:=h;rfl
 obtain⟨a,p,ns,i,m,rfl,T,hi,hm,q⟩:=h;have i0:=T.i0;refine⟨_,(ah (C3 (bh cP (aW fw (pv 1) aj (λ_ _=>rfl)) aj) (Mc (pv 1) aj set_list)) (ah (bB (aG RE (aW fw (pv 1) aj (λ_ _=>rfl)) (bg bo rfl M.gf eA (aa (pv 0) af)) (aM _)) (aq (aB (bh lT (aW fw (pv 0) (bh fL (aW fw (pv 1) aj (λ_ _=>rfl)) aj) (λ_ _=>rfl)) (pv 2)))) aN) (ah (aD (i:=3) fm.nd rfl (by first|exact Or.inl rfl|exact Or.inr rfl) (bg bo rfl M.gf eA (aa (pv 0) af))) (ah (fJ PassesOwn.never rfl (kR (ik Qh (pv 0) eS (gI aj))) (bA (i:=4) fm.nd rfl (by first|exact Or.inl rfl|exact Or.inr rfl)) (aq (aD (i:=3) fm.nd rfl (by first|exact Or.inl rfl|exact Or.inr rfl) (bh lT (bh cP (bh z_ (pv 3) aj) (pv 4)) aj)))) (aq (aB (bh lT (bh lT (bh z_ (bh cP (pv 3) aj) (bh cP (bh z_ (aW fw (pv 1) aj (λ_ _=>rfl)) (aW fw (pv 1) aj (λ_ _=>rfl))) aj)) aj) (pv 2)))))))),?_⟩;try dsimp only[jb,c_]
 refine OM ?_;intro _ _ _ _ _;refine⟨_,rfl,p,_,_,_,rfl,rfl,bQ.of T.lF,rfl,_,_,rfl,rfl,_,rfl,p,_,_,0,rfl,rfl,T.lF,rfl,?_⟩;have e1:(upd H p (.lst ([V.int i].set 0 (V.int (i+1))))) p=some (.lst [.int (i+1)]):=av;have x1:cJ p H (upd H p (.lst ([V.int i].set 0 (V.int (i+1))))):=cJ.upd _;generalize upd H p (.lst ([V.int i].set 0 (V.int (i+1))))=H1 at e1 x1⊢;have hS:=T.scr H1 x1;have hl:(ns.map V.int).length=ns.length:=List.length_map _;have hlen:=T.len;refine⟨_,rfl,p,_,_,_,rfl,rfl,bQ.of e1,rfl,_,rfl,a,_,rfl, .inl hS,_,_,rfl,rfl,_,rfl,?_⟩;refine aZ (λc=>?_) (λc=>?_)
 ·have c:i+1<=(((ns.map V.int).length:Nat):Int):=of_decide_eq_true c;have hk:i.toNat<ns.length:=by rw[hl]at c;omega
  have e2:(i+1-1:Int)=((i.toNat:Nat):Int):=by omega
  refine⟨_,rfl,_,rfl,p,_,_,_,rfl,rfl,bQ.of e1,rfl,_,_,rfl,rfl,a,_,_, .int ns[i.toNat],rfl,rfl,hS,?_,_,rfl,_,_,rfl,rfl,hm,?_⟩;·rw[e2];exact aF (by rw[List.getElem?_map,List.getElem?_eq_getElem hk];rfl)
  ·exact q _ H1 (Int.emod_nonneg _ (by omega)) (Int.emod_lt_of_pos _ hm) x1 e1
 ·refine⟨_,rfl,a,_,rfl, .inl hS,?_⟩;refine⟨_,rfl,_,rfl,a,_,rfl,hS,λp2 Ck=>?_⟩;have s2:=ag Ck (.lst (gG (ns.map V.int) none (some 4)));have n2:p≠p2:=aQ e1 Ck;have h2:(upd H1 p2 (.lst (gG (ns.map V.int) none (some 4)))) p2=some (.lst (gG (ns.map V.int) none (some 4))):=av;rw[show(4:Int)=((4:Nat):Int)from rfl,Fx,<-List.map_take]at s2 h2⊢;generalize upd H1 p2 (.lst ((ns.take 4).map V.int))=H2 at s2 h2⊢;refine⟨p2,rfl,⟨_,bQ.of h2⟩,?_⟩;let CF:Nat->L2.St->Hp->Prop:=(λj aY H'=>∃(z:Int)(cv:Option V),aY=[some (.ref a),some (.ref p),some (.int m),some (.int z),cv]/\0<=z/\z<2000000/\H'=H2);refine iC (ns.take 4).length CF ?_ ?_ ?_;·exact⟨_,none,rfl,by omega,by rw[hl];omega,rfl⟩
  ·rintro j aY H' hj⟨z,cv,rfl,z0,z1,rfl⟩;have hj':(ns.take 4)[j]?=some (ns.take 4)[j]:=List.getElem?_eq_getElem hj;have hw:((ns.take 4).map V.int)[j]?=some (.int (ns.take 4)[j]):=by rw[List.getElem?_map,hj'];rfl
   refine⟨⟨_,_,bQ.of h2,hw⟩,?_⟩;rintro x' H3⟨rfl,hy⟩;have hy:=hy _ (bQ.of h2);rw[hw]at hy;cases hy;refine⟨_,rfl,_,_,rfl,rfl, .inl ⟨by omega,by omega⟩,_,rfl,_,_,rfl,rfl,_,_,rfl,rfl,(by show(0:Int)<1000003;decide),?_⟩;refine⟨_,_,rfl,Int.emod_nonneg _ (by decide),?_,rfl⟩;have :=Int.emod_lt_of_pos (z*131+(ns.take 4)[j]) (show(0:Int)<1000003 by decide);omega
  ·rintro aY H'⟨z,cv,rfl,z0,z1,rfl⟩;have e2:=s2 _ _ e1;refine⟨⟨_,bQ.of h2,by rw[List.length_map];exact Nat.le_refl _⟩,?_⟩;refine⟨_,rfl,_,_,rfl,rfl,_,rfl,p,_,_,_,rfl,rfl,bQ.of e2,rfl,_,rfl,p,_,_,_,rfl,rfl,bQ.of e2,rfl,_,_,rfl,rfl, .inl ⟨by omega,by omega⟩,_,_,rfl,rfl,_,_,rfl,rfl, .inl ⟨by omega,by omega⟩,_,_,rfl,rfl,(by show(0:Int)<1000003;decide),_,rfl,_,_,rfl,rfl,hm,?_⟩;exact q _ _ (Int.emod_nonneg _ (by omega)) (Int.emod_lt_of_pos _ hm) (x1.trans s2.x) e2
end K26
end
section
set_option maxHeartbeats 4000000
namespace K26
open PySem L2 L3 KM PyProof.Rows
seal L2.PE L2.PS L2.eM L2.PT L2.PW L2.PA L2.PG L2.kW L2.PI L2.PC L2.PO L2.nj L2.PK L3.lr L3.PH L3.PB
variable{P:Program}{w:World}{K:PySem.W.Frag}{mg:Str->Option Value}{base:Heap}{t:jo}
theorem Qa(x:Str):SK (.str x) ((["var","name"]:List Str).map V.str)=cQ x:=by rw[A3];unfold cQ;rw[Bool.eq_iff_iff];simp
theorem Bu:aK ["_law_thing"] ["_law_thing"] (ae gj):=⟨rfl,rfl,rfl,by decide+kernel,rfl,by decide+kernel,by decide+kernel⟩
theorem DF(D:Df K mg "_law_kids" gj ["_law_thing"])(M:Mg mg t):bI P w K mg b_ "_law_kids" (1) ["_law_thing"] eh:=by
 refine D.ok Bu (λvs H Q E h=>?_) (λbase f cM A outer s H vs Q E hr h=>?_);·obtain⟨x,ps,v,rfl,_⟩:=h;rfl
 obtain⟨x,ps,v,rfl,r,hl,q⟩:=h;obtain⟨a,us,rfl,ha,v0,us,rfl,⟨rfl,hx⟩,rp⟩:=r;have hlu:=rp.length;have ea:zK (V.str x::us) 0=some (.str x):=aF (j:=0) rfl;refine⟨_,(ah (bB (aG lX (aW aR (pv 0) aj (λ_ _=>rfl)) (ay (aa ar (aa ar af))) rfl) (aq (aB (fK af))) aN) (aq (aB (l5 kQ rfl M.LS Hv (aa (ik yB (pv 0) (gI aj) eS) af))))),?_⟩;try dsimp only[jb,c_]
 refine wO ?_;intro _ _;refine⟨_,rfl,a,_,_,_,rfl,rfl,bN.of ha,ea,(by show 2<=sizeLine;decide),λp1 lC=>⟨p1,(["var","name"]:List Str).map V.str,rfl, .inr (bN.of av),rfl,rfl,_,rfl,?_⟩⟩;have s1:=ag lC (.tup [V.str "var", .str "name"]);show if(SK (.str x) ((["var","name"]:List Str).map V.str))=true then _ else _;rw[Qa];generalize upd H p1 (.tup [V.str "var", .str "name"])=H1 at s1⊢;refine aZ (λc=>?_) (λc=>?_);·exact⟨Nat.zero_le _,λp hp=>q p [] _ (s1.free hp) (s1.trans (ag hp _)) av (by unfold aH;rw[if_pos c];exact rfl)⟩
 have nk:aH x ps=ps:=by unfold aH;rw[if_neg c]
 rw[nk]at q;have ec:gG (V.str x::us) (some 1) none=us:=by have :=lP (V.str x::us) 1;simpa using this
 have h1:=s1 _ _ ha;refine⟨_,rfl,_,rfl,a,_,rfl,bN.of h1,λp hp=>?_,λz=>?_⟩;·rw[ec];refine⟨p,us,rfl, .inr (bN.of av),λl hl=>?_⟩;have s2:=s1.trans ((ag hp (.tup us)).trans (ag hl (.lst us)));exact q l us _ (s1.free ((ag hp _).free hl)) s2 av (rp.mono s2)
 ·rw[ec]at z;exact absurd (congrArg List.length z) (by simp)
theorem xS:∀(l:List Nat)(a:Nat),lY (l++[a])=max (lY l) a|[],a=>by show max a 0=max 0 a;omega|b::l,a=>by show max b (lY (l++[a]))=max (max b (lY l)) a;rw[xS l a];omega
theorem xW:∀(ds:List D)(e:D),eW (ds++[e])=(eW ds||c8 e)|[],e=>by show(c8 e||false)=(false||c8 e);rw[Bool.or_false,Bool.false_or]|d::ds,e=>by rw[List.cons_append,eW,xW ds e,eW,Bool.or_assoc]
theorem Ot{x:Str}{ps:List D}{k:Bool}(wf:bU aP k (.tup (.str x::ps))=true)(m:Nat)(hm:m=(aH x ps).length):((if x="var"then c8 (.tup (.str x::ps))else false)||eW ((aH x ps).take m))=c8 (.tup (.str x::ps)):=by
 rw[hm,List.take_length];by_cases hv:x="var"
 ·rw[if_pos hv];have :aH x ps=[]:=by unfold aH;rw[if_pos (by rw[hv];decide+kernel)]
  rw[this];show(_||false)=_;rw[Bool.or_false]
 ·rw[if_neg hv,Bool.false_or];by_cases hx:cQ x=true
  ·have e:aH x ps=[]:=by unfold aH;rw[if_pos hx]
   rw[e];have key:∀qs:List D,(∀p∈qs,c8 p=false)->eW qs=false:=λqs=>by induction qs with|nil=>intro _;rfl|cons q qs ih=>intro h;rw[eW,h q List.mem_cons_self,ih λp hp=>h p (List.mem_cons_of_mem _ hp)];rfl
   have :eW ps=false:=key ps λp hp=>by obtain⟨i,hi,e⟩:=List.mem_iff_getElem.mp hp;exact Bb wf hx hv i p (by rw[List.getElem?_eq_getElem hi,e])
   show false=(false||eW ps);rw[this];rfl
  ·have e:aH x ps=ps:=by unfold aH;rw[if_neg hx]
   rw[e];show eW ps=(false||eW ps);rw[Bool.false_or]
noncomputable def Aq(n:Nat):Sp:=λvs H Q _=>∃(d:D)(v:V),vs=[v]/\Rep H d v/\Rz d n/\∀(q:Addr)(c:Int)(H':Hp),aA H H'->-1<=c->decide (99<c)=c8 d->H' q=some (.tup [.int (cf d:Nat), .int (depth d:Nat), .int c])->Q (.ref q) H'
theorem bj:aK ["_law_thing","_law_knots","_law_deep","_law_most","_law_kid","_law_told_here"] ["_law_thing"] (ae cT):=⟨rfl,rfl,rfl,by decide+kernel,rfl,by decide+kernel,by decide+kernel⟩
theorem ng{n:Nat}(D:Df K mg "_law_measured" cT ["_law_thing"])(M:Mg mg t)(gC:bI P w K mg b_ "_law_kids" (1) ["_law_thing"] eh)(fh:bI P w K mg b_ "_law_measured" (n+131) ["_law_thing"] (Aq n)):bI P w K mg b_ "_law_measured" (n+132) ["_law_thing"] (Aq (n+1)):=by
 refine D.ok bj (λvs H Q E h=>?_) (λbase f cM A outer s H vs Q E hr h=>?_);·obtain⟨d,v,rfl,_⟩:=h;rfl
 obtain⟨d,v,rfl,r,rz,q⟩:=h;have hh:=hr.hd (by omega);obtain⟨x,ps,k,rfl,wf,G7⟩:=mD rz.wf;have Xq:=Io wf;obtain⟨a,J5,rfl,ha,v0,J5,rfl,⟨rfl,hx⟩,rp⟩:=id r;have ea:zK (V.str x::J5) 0=some (.str x):=aF (j:=0) rfl;refine⟨_,(ah (aD (i:=1) bj.nd rfl (by first|exact Or.inl rfl|exact Or.inr rfl) aj) (ah (aD (i:=2) bj.nd rfl (by first|exact Or.inl rfl|exact Or.inr rfl) aj) (ah (aD (i:=3) bj.nd rfl (by first|exact Or.inl rfl|exact Or.inr rfl) (Lo CH aj)) (kD (bB (aG cj (aW aR (pv 0) aj (λ_ _=>rfl)) ar (aM _)) (aq (aD (i:=3) bj.nd rfl (by first|exact Or.inl rfl|exact Or.inr rfl) (aW aR (pv 0) aj (λ_ _=>rfl)))) aN) (ah (fJ PassesOwn.never rfl (kR (aO gC (hr.mono (by omega)) rfl aU (aa (pv 0) af))) (bA (i:=4) bj.nd rfl (by first|exact Or.inl rfl|exact Or.inr rfl)) (ah (aD (i:=5) bj.nd rfl (by first|exact Or.inl rfl|exact Or.inr rfl) (aO fh (hr.mono (by omega)) rfl aU (aa (pv 4) af))) (ah (aD (i:=1) bj.nd rfl (by first|exact Or.inl rfl|exact Or.inr rfl) (bh cP (pv 1) (aW aR (pv 5) aj (λ_ _=>rfl)))) (ah (aD (i:=2) bj.nd rfl (by first|exact Or.inl rfl|exact Or.inr rfl) (bg (xy hh) rfl M.NU DK (aa (pv 2) (aa (aW aR (pv 5) aj (λ_ _=>rfl)) af)))) (aq (aD (i:=3) bj.nd rfl (by first|exact Or.inl rfl|exact Or.inr rfl) (bg (xy hh) rfl M.NU DK (aa (pv 3) (aa (aW aR (pv 5) aj (λ_ _=>rfl)) af))))))))) (aq (aB (ay (aa (pv 1) (aa (bh cP (pv 2) aj) (aa (pv 3) af))))))))))),?_⟩;try dsimp only[jb,c_]
 refine L5 ?_;intro _ _ _ _;refine⟨_,rfl,λaY H'=>∃c:Int,aY=[some (.ref a),some (.int 1),some (.int 0),some (.int c),none,none]/\-1<=c/\decide (99<c)=(if x="var"then c8 (.tup (.str x::ps))else false)/\H'=H,?_,?_⟩
 ·refine⟨_,rfl,a,_,_,_,rfl,rfl,bN.of ha,ea,rfl,_,rfl,?_⟩;refine aZ (λc=>?_) (λc=>⟨-1,rfl,by decide,by rw[if_neg (λz=>c (by rw[z];exact decide_eq_true rfl))];rfl,rfl⟩);have c:V.str x=V.str "var":=of_decide_eq_true c;cases c;obtain⟨sh,e1,_,e3,_,e5,_⟩:=cx wf;rw[eX]at e1;cases e1;rw[A9]at e3 e5;obtain⟨p0,rfl⟩:∃p0,ps=[p0]:=by cases ps with|nil=>simp at e5|cons p0 rest=>cases rest with|nil=>exact⟨p0,rfl⟩|cons _ _=>simp at e5
  rw[aT,Bool.and_eq_true]at e3;have hn:jc p0=true:=by simpa[fj]using e3.1
  obtain⟨i,rfl⟩:∃i,p0= .int i:=by cases p0<;>first|exact⟨_,rfl⟩|simp[jc]at hn
  obtain⟨u1,us1,rfl,r1,_⟩:=rp;cases(show u1=V.int i from r1);have hi:0<=i:=by simp[jc]at hn;exact hn
  exact⟨_,rfl,a,_,_, .int i,rfl,rfl,bN.of ha,aF (j:=1) rfl,i,rfl,by omega,by rw[if_pos rfl];simp[c8,eW],rfl⟩
 rintro aY H0⟨c,rfl,c0,c1,rfl⟩;refine⟨_,rfl,x,ps,_,rfl,r,G7,λp1 us H1 _ s1 h1 r1=>⟨p1,rfl,⟨us,bQ.of h1⟩,?_⟩⟩;have l1:=r1.length;have hkn:=DD wf;let CF:Nat->L2.St->Hp->Prop:=(λj aY H'=>∃(c:Int)(kv tv:Option V),aY=[some (.ref a),some (.int ((1+(((aH x ps).take j).map cf).sum:Nat):Int)),some (.int (lY (((aH x ps).take j).map depth):Nat)),some (.int c),kv,tv]/\-1<=c/\decide (99<c)=((if x="var"then c8 (.tup (.str x::ps))else false)||eW ((aH x ps).take j))/\aA H1 H');refine iC us.length CF ?_ ?_ ?_;·exact⟨c,none,none,rfl,c0,by rw[c1,List.take_zero,eW,Bool.or_false],aA.refl _⟩
 ·rintro j aY H2 hj⟨c,kv,tv,rfl,c0,c1,s2⟩;obtain⟨dj,hdj⟩:∃dj,(aH x ps)[j]?=some dj:=⟨_,List.getElem?_eq_getElem (by omega)⟩;obtain⟨uj,huj,ruj⟩:=r1.get hdj;refine⟨⟨us,uj,bQ.of (s2 _ _ h1),huj⟩,?_⟩;rintro x' H3⟨rfl,hy⟩;have hy:=hy us (bQ.of (s2 _ _ h1));rw[huj]at hy;cases hy;refine⟨_,rfl,dj,uj,rfl,ruj.mono s2,rz.kid hdj,λq3 c3 H4 s4 b0 b1 h4=>?_⟩;have hT:=bN.of (K:=K) h4;refine⟨_,rfl,_,rfl,q3,_,_,_,rfl,rfl,hT,aF (j:=0) rfl,_,_,rfl,rfl,?_⟩;refine⟨_,rfl,_,rfl,q3,_,_,_,rfl,rfl,hT,aF (j:=1) rfl,_,_,rfl,?_⟩;refine⟨_,rfl,_,rfl,q3,_,_,_,rfl,rfl,hT,aF (j:=2) rfl,_,_,rfl,?_⟩;refine⟨if c3>c then c3 else c,some uj,some (.ref q3),?_,?_,?_,s2.trans s4⟩;rotate_left;·show-1<=(if c3>c then c3 else c);split<;>omega
  ·show decide (99<(if c3>c then c3 else c))=_;rw[take_snoc hdj,xW,<-Bool.or_assoc,<-c1,<-b1];by_cases h1:c3>c
   ·rw[if_pos h1];by_cases h2:99<c3;·rw[decide_eq_true h2,Bool.or_true]
    ·rw[decide_eq_false h2,decide_eq_false (by omega)];rfl
   ·rw[if_neg h1];by_cases h2:99<c;·rw[decide_eq_true h2,Bool.true_or]
    ·rw[decide_eq_false h2,decide_eq_false (by omega)];rfl
  ·rw[take_snoc hdj,List.map_append,List.map_append,List.sum_append,List.map_singleton,List.map_singleton,xS,List.sum_singleton];have e1:((1+(((aH x ps).take j).map cf).sum:Nat):Int)+((cf dj:Nat):Int)=((1+((((aH x ps).take j).map cf).sum+cf dj):Nat):Int):=by omega
   have e2:(if((depth dj:Nat):Int)>((lY (((aH x ps).take j).map depth):Nat):Int)then((depth dj:Nat):Int)else((lY (((aH x ps).take j).map depth):Nat):Int))=((max (lY (((aH x ps).take j).map depth)) (depth dj):Nat):Int):=by split<;>omega
   rw[<-e1,<-e2];rfl
 ·rintro aY H2⟨c,kv,tv,rfl,c0,c1,s2⟩;refine⟨⟨us,bQ.of (s2 _ _ h1),Nat.le_refl _⟩,?_⟩;refine⟨_,rfl,_,rfl,_,_,rfl,rfl,_,rfl,(by show 3<=sizeLine;decide),λq4 VT=>?_⟩;refine q q4 c _ (s1.trans (s2.trans (ag VT _))) c0 (c1.trans (Ot wf us.length l1)) ?_;rw[hkn.1,hkn.2];rw[l1,List.take_length];have e2:((lY ((aH x ps).map depth):Nat):Int)+1=((1+lY ((aH x ps).map depth):Nat):Int):=by omega
  rw[<-e2];exact av
theorem ig(D:Df K mg "_law_measured" cT ["_law_thing"])(M:Mg mg t)(gC:bI P w K mg b_ "_law_kids" (1) ["_law_thing"] eh):∀n:Nat,bI P w K mg b_ "_law_measured" (n+131) ["_law_thing"] (Aq n)|0=>bI.never D λvs H Q E⟨d,v,_,_,h,_⟩=>absurd h.dp (Nat.not_lt_zero _)|n+1=>ng D M gC (ig D M gC n)
noncomputable def G3(n:Nat):Sp:=λvs H Q _=>∃(d:D)(v:V),vs=[v]/\Rep H d v/\Rz d n/\∀H',aA H H'->Q (.bl (bx d)) H'
theorem jW:aK ["_law_thing","_law_told_here"] ["_law_thing"] (ae fk):=⟨rfl,rfl,rfl,by decide+kernel,rfl,by decide+kernel,by decide+kernel⟩
theorem AN{n:Nat}(D:Df K mg "_law_great" fk ["_law_thing"])(M:Mg mg t)(fh:bI P w K mg b_ "_law_measured" (n+131) ["_law_thing"] (Aq n)):bI P w K mg b_ "_law_great" (n+132) ["_law_thing"] (G3 n):=by
 refine D.ok jW (λvs H Q E h=>?_) (λbase f cM A outer s H vs Q E hr h=>?_);·obtain⟨d,v,rfl,_⟩:=h;rfl
 obtain⟨d,v,rfl,r,rz,q⟩:=h;refine⟨_,(ah (aD (i:=1) jW.nd rfl (by first|exact Or.inl rfl|exact Or.inr rfl) (aO fh (hr.mono (by omega)) rfl aU (aa (pv 0) af))) (aq (aB (RJ (ja mQ (aW aR (pv 1) aj (λ_ _=>rfl)) aj (aM _)) (RJ (ja mQ (aW aR (pv 1) aj (λ_ _=>rfl)) aj (aM _)) (Mb (ja mQ (aW aR (pv 1) aj (λ_ _=>rfl)) aj (aM _)))))))),?_⟩;try dsimp only[jb,c_]
 refine wO ?_;intro _ _;refine⟨_,rfl,d,v,rfl,r,rz,λp c H1 s1 c0 c1 h1=>?_⟩;have hT:=bN.of (K:=K) h1;have qq:=q H1 s1;refine⟨_,rfl,p,_,_,_,rfl,rfl,hT,aF (j:=0) rfl,_,_,rfl,rfl,_,rfl,?_⟩;refine aZ (λc=>?_) (λc=>?_)
 ·have c:(600:Int)<((cf d:Nat):Int):=of_decide_eq_true c;have e:cE d=true:=by unfold cE;simp;omega
  have e:bx d=true:=by show(cE d||c8 d)=true;rw[e];rfl
  rw[e]at qq;exact qq
 have c:¬(600:Int)<((cf d:Nat):Int):=of_decide_eq_false (Bool.eq_false_iff.mpr c);refine⟨_,rfl,p,_,_,_,rfl,rfl,hT,aF (j:=1) rfl,_,_,rfl,rfl,_,rfl,?_⟩;refine aZ (λc2=>?_) (λc2=>?_)
 ·have c2:(40:Int)<((depth d:Nat):Int):=of_decide_eq_true c2;have e:cE d=true:=by unfold cE;simp;omega
  have e:bx d=true:=by show(cE d||c8 d)=true;rw[e];rfl
  rw[e]at qq;exact qq
 have c2:¬(40:Int)<((depth d:Nat):Int):=of_decide_eq_false (Bool.eq_false_iff.mpr c2);have e:cE d=false:=by unfold cE;simp;omega
 have e:bx d=c8 d:=by show(cE d||c8 d)=_;rw[e];rfl
 rw[e,<-c1]at qq;exact⟨_,rfl,p,_,_,_,rfl,rfl,hT,aF (j:=2) rfl,_,_,rfl,rfl,qq⟩
end K26
end
section
namespace L3
open PySem PySem.Spec PyProof.Rows L2 KM
end L3
end
section
namespace L3
open PySem PySem.Spec PyProof.Rows L2 KM
noncomputable def abg(c:TT)(t u:TB):TB:=λD G σ H=>c σ H λb H1=>if b=true then t {D with nx:=λaY H'=>u D G aY H'} G σ H1 else u D G σ H1
theorem MO{X:Cx}{c:Expr}{a rest:List Stmt}{tc:TT}{t u:TB}{pos:Pos}(hc:PT X.Ka c tc)(ha:PB X a t)(hb:PB X rest u):PB X (.If c a [] pos::rest) (abg tc t u):=by
 intro pins s σ H D G I h;refine wpAny_execs_cons (wpAny_mono (wpAny_If (E:=BX X pins G) (Q:=SP X pins {D with nx:=λaY H'=>u D G aY H'}) (wpAny_mono (hc pins s σ H _ (I.nu _) h) (λd s1⟨H1,I1,q1⟩=>?_) λ_ _ z=>z.elim)) (λf s1 q=>?_) λ_ _ z=>z);·cases d with|true=>exact ha pins s1 σ H1 _ G I1.dX q1|false=>exact wpAny_execs_nil ⟨σ,H1,I1.dX,q1⟩
 ·cases f with|next=>obtain⟨aY,H',I',q⟩:=q;exact hb pins s1 aY H' D G I' q|brk=>exact q|cont=>exact q|ret u=>exact q
end L3
end
section
namespace L3
open PySem PySem.Spec PyProof.Rows L2 KM
noncomputable def eqB(p:Prop):Bool:=@decide p (Classical.propDecidable p)
theorem kl{p:Prop}(h:p):eqB p=true:=@decide_eq_true p (Classical.propDecidable p) h
theorem eI{p:Prop}(h:¬p):eqB p=false:=@decide_eq_false p (Classical.propDecidable p) h
theorem Vr{p:Prop}(h:eqB p=true):p:=@of_decide_eq_true p (Classical.propDecidable p) h
mutual/--no truths within -/noncomputable def NP:D->Bool| .bl _=>false| .tup ds=>Ml ds|_=>true noncomputable def Ml:List D->Bool|[]=>true|d::ds=>NP d&&Ml ds end
mutual theorem Hm{H:Hp}:∀{d e:D}{v:V},Rep H d v->Rep H e v->d=e
 | .ba,e,v,h,h'=>by cases(show v=V.ba from h);cases e with|ba=>rfl|bl b=>cases(show V.ba=V.bl b from h')|int i=>cases(show V.ba=V.int i from h')|str x=>cases(show V.ba=V.str x from h'.1)|tup es=>obtain⟨a,vs,e,_⟩:=h';cases e
 | .bl c,e,v,h,h'=>by cases(show v=V.bl c from h);cases e with|ba=>cases(show V.bl c=V.ba from h')|bl b=>cases(show V.bl c=V.bl b from h');rfl|int i=>cases(show V.bl c=V.int i from h')|str x=>cases(show V.bl c=V.str x from h'.1)|tup es=>obtain⟨a,vs,e,_⟩:=h';cases e
 | .int c,e,v,h,h'=>by cases(show v=V.int c from h);cases e with|ba=>cases(show V.int c=V.ba from h')|bl b=>cases(show V.int c=V.bl b from h')|int i=>cases(show V.int c=V.int i from h');rfl|str x=>cases(show V.int c=V.str x from h'.1)|tup es=>obtain⟨a,vs,e,_⟩:=h';cases e
 | .str c,e,v,h,h'=>by cases(show v=V.str c from h.1);cases e with|ba=>cases(show V.str c=V.ba from h')|bl b=>cases(show V.str c=V.bl b from h')|int i=>cases(show V.str c=V.int i from h')|str x=>cases(show V.str c=V.str x from h'.1);rfl|tup es=>obtain⟨a,vs,e,_⟩:=h';cases e
 | .tup ds,e,v,h,h'=>by obtain⟨a,vs,rfl,ha,r⟩:=h;cases e with|ba=>cases(show V.ref a=V.ba from h')|bl b=>cases(show V.ref a=V.bl b from h')|int i=>cases(show V.ref a=V.int i from h')|str x=>cases(show V.ref a=V.str x from h'.1)|tup es=>obtain⟨a',vs',e,ha',r'⟩:=h';cases e;rw[ha]at ha';cases ha';rw[BB r r']theorem BB{H:Hp}:∀{ds es:List D}{vs:List V},bu H ds vs->bu H es vs->ds=es
 |[],es,vs,h,h'=>by cases(show vs=[]from h);cases es with|nil=>rfl|cons e es=>obtain⟨v,r,z,_⟩:=h';cases z
 |d::ds,es,vs,h,h'=>by obtain⟨v,r,rfl,q,t⟩:=h;cases es with|nil=>cases(show v::r=[]from h')|cons e es=>obtain⟨v',r',z,q',t'⟩:=h';cases z;rw[Hm q q',BB t t']end
theorem KP(ds es:List D):((List.range (min ds.length es.length)).all (λj=>eqB (ds[j]?=es[j]?))&&(ds.length==es.length))=eqB (D.tup ds=D.tup es):=by
 by_cases h:ds=es;·subst h;rw[kl rfl,Bool.and_eq_true];exact⟨List.all_eq_true.mpr λj _=>kl rfl,by simp⟩
 ·rw[eI (λz=>h (by injection z))];by_cases hl:ds.length=es.length
  ·have :¬(List.range (min ds.length es.length)).all (λj=>eqB (ds[j]?=es[j]?))=true:=λz=>h (List.ext_getElem? λi=>by
    by_cases hi:i<ds.length;·exact Vr (List.all_eq_true.mp z i (List.mem_range.mpr (by omega)))
    ·rw[List.getElem?_eq_none (by omega),List.getElem?_eq_none (by omega)]);rw[Bool.eq_false_iff.mpr this,Bool.false_and]
  ·have :(ds.length==es.length)=false:=by simpa using hl
   rw[this,Bool.and_false]
section
variable{X:Cx}{pins:List (Addr×Obj)}{σ:L2.St}{H:Hp}{s:Shared}
mutual theorem Cj(I:Inv X pins σ H s):∀(d e:D)(A:Around)(v u:V)(a b:Value),Rep H d v->Rep H e u->L2.RelV v a->L2.RelV u b->NP d=true->NP e=true->A.units+depth d<cLine->SeqAt.EqAt A s a b (eqB (d=e))
 | .ba,e,A,v,u,a,b,r,r',k,k',n,n',hu=>by cases(show v=V.ba from r);cases(show a=Value.none from k);cases e with|ba=>cases(show u=V.ba from r');cases(show b=Value.none from k');rw[kl rfl];exact SeqAt.EqAt.same _|bl c=>cases n'|int i=>cases(show u=V.int i from r');obtain⟨t,rfl⟩:=k';rw[eI (λz=>by cases z)];exact SeqAt.EqAt.none_int i t|str x=>cases(show u=V.str x from r'.1);obtain⟨t,rfl⟩:=k';rw[eI (λz=>by cases z)];exact SeqAt.EqAt.none_str x t|tup es=>obtain⟨p,us,rfl,hp,rs⟩:=r';cases(show b=Value.ref p from k');obtain⟨aI,rv,pt,_⟩:=I.tuple (bN.of (K:=X.K) hp);rw[eI (λz=>by cases z)];exact SeqAt.EqAt.none_tuple pt (by omega)
 | .bl _,_,_,_,_,_,_,_,_,_,_,n,_,_=>by cases n
 | .int c,e,A,v,u,a,b,r,r',k,k',n,n',hu=>by
  cases(show v=V.int c from r);obtain⟨t0,rfl⟩:=k;cases e with
   |ba=>cases(show u=V.ba from r');cases(show b=Value.none from k');rw[eI (λz=>by cases z)];exact SeqAt.EqAt.int_none c t0
   |bl c=>cases n'
   |int i=>
    cases(show u=V.int i from r');obtain⟨t,rfl⟩:=k';have :eqB (D.int c=D.int i)=(c==i):=by
     by_cases h:c=i;·subst h;rw[kl rfl];simp
     ·rw[eI (λz=>h (by injection z))];simp[h]
    rw[this];exact SeqAt.EqAt.int_int c t0 i t
   |str x=>cases(show u=V.str x from r'.1);obtain⟨t,rfl⟩:=k';rw[eI (λz=>by cases z)];exact SeqAt.EqAt.int_str c t0 x t
   |tup es=>obtain⟨p,us,rfl,hp,rs⟩:=r';cases(show b=Value.ref p from k');obtain⟨aI,rv,pt,_⟩:=I.tuple (bN.of (K:=X.K) hp);rw[eI (λz=>by cases z)];exact SeqAt.EqAt.int_tuple c t0 pt (by omega)
 | .str c,e,A,v,u,a,b,r,r',k,k',n,n',hu=>by
  cases(show v=V.str c from r.1);obtain⟨t0,rfl⟩:=k;cases e with
   |ba=>cases(show u=V.ba from r');cases(show b=Value.none from k');rw[eI (λz=>by cases z)];exact SeqAt.EqAt.str_none c t0
   |bl c=>cases n'
   |int i=>cases(show u=V.int i from r');obtain⟨t,rfl⟩:=k';rw[eI (λz=>by cases z)];exact SeqAt.EqAt.str_int c t0 i t
   |str x=>
    cases(show u=V.str x from r'.1);obtain⟨t,rfl⟩:=k';have :eqB (D.str c=D.str x)=(c==x):=by
     by_cases h:c=x;·subst h;rw[kl rfl];simp
     ·rw[eI (λz=>h (by injection z))];simp[h]
    rw[this];exact SeqAt.EqAt.str_str c t0 x t
   |tup es=>obtain⟨p,us,rfl,hp,rs⟩:=r';cases(show b=Value.ref p from k');obtain⟨aI,rv,pt,_⟩:=I.tuple (bN.of (K:=X.K) hp);rw[eI (λz=>by cases z)];exact SeqAt.EqAt.str_tuple c t0 pt (by omega)
 | .tup ds,e,A,v,u,a,b,r,r',k,k',n,n',hu=>by
  obtain⟨q,vs,rfl,hq,rd⟩:=id r;cases(show a=Value.ref q from k);obtain⟨aI,rv,pt,_⟩:=I.tuple (bN.of (K:=X.K) hq);have QI:A.units<cLine:=by omega
  cases e with
   |ba=>cases(show u=V.ba from r');cases(show b=Value.none from k');rw[eI (λz=>by cases z)];exact SeqAt.EqAt.tuple_none pt QI
   |bl c=>cases n'
   |int i=>cases(show u=V.int i from r');obtain⟨t,rfl⟩:=k';rw[eI (λz=>by cases z)];exact SeqAt.EqAt.tuple_int i t pt QI
   |str x=>cases(show u=V.str x from r'.1);obtain⟨t,rfl⟩:=k';rw[eI (λz=>by cases z)];exact SeqAt.EqAt.tuple_str x t pt QI
   |tup es=>
    obtain⟨p,us,rfl,hp,re⟩:=id r';cases(show b=Value.ref p from k');obtain⟨lL,HE,PV,_⟩:=I.tuple (bN.of (K:=X.K) hp);by_cases QP:q=p;·subst QP;rw[kl (Hm r r')];exact SeqAt.EqAt.same _
    ·have l1:=rv.length;have l2:=HE.length;have l3:=rd.length;have l4:=re.length;have hd:depth (.tup ds)=1+az ds:=by simp[depth]
     rw[<-KP];have s1:aI.toArray.size=ds.length:=by rw[List.size_toArray];omega
     have s2:lL.toArray.size=es.length:=by rw[List.size_toArray];omega
     have :=SeqAt.EqAt.of_refs QP (SeqAt.RcAt.tuples (A:=A) pt PV QI (e:=λj=>eqB (ds[j]?=es[j]?)) λj h1 h2=>by have :=xC I ds es A.in1 vs us aI lL rd re rv HE n n' (by show A.units+1+az ds<cLine;omega) j (by simpa using h1) (by simpa using h2);simpa using this);rw[s1,s2]at this;exact this theorem xC(I:Inv X pins σ H s):∀(ds es:List D)(A:Around)(vs us:List V)(aI lL:List Value),bu H ds vs->bu H es us->Vals vs aI->Vals us lL->Ml ds=true->Ml es=true->A.units+az ds<cLine->∀(j:Nat)(h1:j<aI.length)(h2:j<lL.length),SeqAt.EqAt A s aI[j] lL[j] (eqB (ds[j]?=es[j]?))
 |[],es,A,vs,us,aI,lL,r,r',k,k',n,n',hu,j,h1,h2=>by cases(show vs=[]from r);cases k;exact absurd h1 (Nat.not_lt_zero _)
 |d::ds,[],A,vs,us,aI,lL,r,r',k,k',n,n',hu,j,h1,h2=>by cases(show us=[]from r');cases k';exact absurd h2 (Nat.not_lt_zero _)
 |d::ds,e::es,A,vs,us,aI,lL,r,r',k,k',n,n',hu,j,h1,h2=>by
  obtain⟨v,vs,rfl,q,t⟩:=r;obtain⟨u,us,rfl,q',t'⟩:=r';have n:(NP d&&Ml ds)=true:=n;have n':(NP e&&Ml es)=true:=n';rw[Bool.and_eq_true]at n n';have hd:az (d::ds)=max (depth d) (az ds):=by simp[az]
  cases k with
   |cons k1 k2=>
    cases k' with
     |cons k1' k2'=>
      cases j with
       |zero=>
        have :=Cj I d e A v u _ _ q q' k1 k1' n.1 n'.1 (by omega);have e1:eqB ((d::ds)[0]?=(e::es)[0]?)=eqB (d=e):=by
         by_cases h:d=e;·rw[kl h,kl (by rw[h];rfl)]
         ·rw[eI h,eI (λz=>h (by simpa using z))]
        rw[e1];exact this
       |succ j=>exact xC I ds es A vs us _ _ t t' k2 k2' n.2 n'.2 (by omega) j (by simpa using h1) (by simpa using h2)end
end
end L3
end
section
namespace L3
open PySem PySem.Spec PyProof.Rows L2 KM
noncomputable def Jp(c:Bool):Value->Bool| .bool b=>b==c|_=>false
theorem wm:∀{bs:List Bool}{aI:List Value},Vals (bs.map V.bl) aI->aI=bs.map Value.bool|[],_, .nil=>rfl|b::bs,_, .cons h r=>by rw[show _=Value.bool b from h,wm r];rfl
theorem E6{A:Around}{s:Shared}(c:Bool)(bs:List Bool):∀y,y∈(bs.map Value.bool).toArray->SeqAt.EqAt A s y (.bool c) (Jp c y):=λy h=>by
 have h:y∈bs.map Value.bool:=by simpa using h
 obtain⟨b,_,rfl⟩:=List.mem_map.mp h;exact SeqAt.EqAt.bool_bool b c
noncomputable def Pe(K:PySem.W.Frag):V->List V->Hp->VK->Prop:=λx vs H Q=>∃(l:Addr)(bs:List Bool)(c:Bool),x= .ref l/\vs=[.bl c]/\bQ K H l (bs.map V.bl)/\Q (.int (bs.count c:Nat)) H
theorem IF{X:Cx}:MtR X "list.count" (Pe X.K):=by
 intro pins s σ H x vs v us Q I rx rv h;obtain⟨l,bs,c,rfl,rfl,hq,q⟩:=h;cases rx;obtain⟨u,rfl,ru⟩:=rv.one;cases(show u=Value.bool c from ru);obtain⟨aI,r,pl,hz⟩:=I.list hq;cases wm r;obtain⟨⟨cls,dd,data,sl⟩,ho,hc,n,hd⟩:=id pl.isList;simp only at hc hd;subst hc hd;refine call_meets PySem.F.slot_list_count ⟨_,ho,rfl⟩ PySem.F.entry_list_count (PySem.F.args_list_count_2 _ _) (SeqAt.list_countAt l (bs.map Value.bool).toArray n dd sl (.bool c) (Jp c)) ⟨ho,E6 c bs,⟨.int (bs.count c:Nat),H,I.tok _,⟨s.toks,?_⟩,q⟩⟩;have :(bs.map Value.bool).countP (Jp c)=bs.count c:=by rw[List.countP_map];rfl
 rw[List.toList_toArray,this]
theorem vO{k:Bool}:∀{ns:List Bool}{j:Nat},j<ns.idxOf k->∀(h2:j<ns.length),(ns[j]==k)=false
 |n::r,0,h,_=>by
  by_cases e:n=k;·subst e;simp at h
  ·simpa using e
 |n::r,j+1,h,h2=>by
  by_cases e:n=k;·subst e;simp at h
  ·have hb:(n==k)=false:=by simpa using e
   have h':j<r.idxOf k:=by rw[List.idxOf_cons,hb]at h;exact Nat.lt_of_succ_lt_succ h
   exact vO h' (Nat.lt_of_succ_lt_succ h2)
noncomputable def OA(K:PySem.W.Frag):V->List V->Hp->VK->Prop:=λx vs H Q=>∃(l:Addr)(bs:List Bool)(c:Bool),x= .ref l/\vs=[.bl c]/\bQ K H l (bs.map V.bl)/\c∈bs/\bs.length<=100000/\Q (.int (bs.idxOf c:Nat)) H
theorem IY{X:Cx}:MtR X "list.index" (OA X.K):=by
 intro pins s σ H x vs v us Q I rx rv h;obtain⟨l,bs,c,rfl,rfl,hq,hc,hl,q⟩:=h;cases rx;obtain⟨u,rfl,ru⟩:=rv.one;cases(show u=Value.bool c from ru);obtain⟨aI,r,pl,hz⟩:=I.list hq;cases wm r;obtain⟨⟨cls,dd,data,sl⟩,ho,Ob,n,hd⟩:=id pl.isList;simp only at Ob hd;subst Ob hd;have hj:bs.idxOf c<bs.length:=List.idxOf_lt_length_iff.mpr hc;refine call_meets PySem.F.slot_list_index ⟨_,ho,rfl⟩ PySem.F.entry_list_index (PySem.F.args_list_index_2 _ _) (SeqAt.list_indexAt l (bs.map Value.bool).toArray n dd sl (.bool c) (Jp c) (bs.idxOf c) (by simpa using hj) (by omega) ?_ ?_) ⟨ho,E6 c bs,⟨.int (bs.idxOf c:Nat),H,I.tok _,⟨_,rfl⟩,q⟩⟩;·simp[Jp]
 ·intro j hjs m9;have hjl:j<bs.length:=by simpa using hjs
  have :(bs[j]==c)=false:=vO m9 hjl;simpa[Jp]using this
inductive DX|d(x:D)|tup(xs:List DX)|lst(xs:List DX)
mutual noncomputable def uY(H:Hp):DX->V->Prop| .d x,v=>Rep H x v| .tup xs,v=>∃a vs,v= .ref a/\H a=some (.tup vs)/\dD H xs vs| .lst xs,v=>∃a vs,v= .ref a/\H a=some (.lst vs)/\dD H xs vs noncomputable def dD(H:Hp):List DX->List V->Prop|[],vs=>vs=[]|x::xs,vs=>∃v r,vs=v::r/\uY H x v/\dD H xs r end
mutual noncomputable def nbX:DX->Bool| .d x=>NP x| .tup xs=>yw xs| .lst xs=>yw xs noncomputable def yw:List DX->Bool|[]=>true|x::xs=>nbX x&&yw xs end
mutual noncomputable def Qu:DX->Nat| .d x=>depth x| .tup xs=>1+hU xs| .lst xs=>1+hU xs noncomputable def hU:List DX->Nat|[]=>0|x::xs=>max (Qu x) (hU xs)end
theorem dD.length{H:Hp}:∀{xs:List DX}{vs:List V},dD H xs vs->vs.length=xs.length|[],vs,h=>by rw[show vs=[]from h];rfl|x::xs,_,⟨v,r,e,_,h⟩=>by rw[e,List.length_cons,List.length_cons,dD.length h]
section
variable{X:Cx}{pins:List (Addr×Obj)}{σ:L2.St}{H:Hp}{s:Shared}
mutual theorem eqX(I:Inv X pins σ H s):∀(x:DX)(A:Around)(v u:V)(a b:Value),uY H x v->uY H x u->L2.RelV v a->L2.RelV u b->nbX x=true->A.units+Qu x<cLine->SeqAt.EqAt A s a b true
 | .d x,A,v,u,a,b,r,r',k,k',n,hu=>by have :=Cj I x x A v u a b r r' k k' n n hu;rw[kl rfl]at this;exact this
 | .tup xs,A,v,u,a,b,r,r',k,k',n,hu=>by
  obtain⟨q,vs,rfl,hq,rd⟩:=r;obtain⟨p,us,rfl,hp,re⟩:=r';cases(show a=Value.ref q from k);cases(show b=Value.ref p from k');obtain⟨aI,rv,pt,_⟩:=I.tuple (bN.of (K:=X.K) hq);obtain⟨lL,HE,PV,_⟩:=I.tuple (bN.of (K:=X.K) hp);have hd:Qu (.tup xs)=1+hU xs:=by simp[Qu]
  by_cases QP:q=p;·subst QP;exact SeqAt.EqAt.same _
  ·have l1:=rv.length;have l2:=HE.length;have l3:=dD.length rd;have l4:=dD.length re;have :=SeqAt.EqAt.of_refs QP (SeqAt.RcAt.tuples (A:=A) pt PV (by omega) (e:=λ_=>true) λj h1 h2=>by have :=K0 I xs A.in1 vs us aI lL rd re rv HE n (by show A.units+1+hU xs<cLine;omega) j (by simpa using h1) (by simpa using h2);simpa using this);have e:((List.range (min aI.toArray.size lL.toArray.size)).all (λ_=>true)&&aI.toArray.size==lL.toArray.size)=true:=by rw[Bool.and_eq_true];refine⟨by simp,?_⟩;simp only[List.size_toArray,beq_iff_eq];omega
   rw[e]at this;exact this
 | .lst xs,A,v,u,a,b,r,r',k,k',n,hu=>by
  obtain⟨q,vs,rfl,hq,rd⟩:=r;obtain⟨p,us,rfl,hp,re⟩:=r';cases(show a=Value.ref q from k);cases(show b=Value.ref p from k');obtain⟨aI,rv,pt,_⟩:=I.list (bQ.of (K:=X.K) hq);obtain⟨lL,HE,PV,_⟩:=I.list (bQ.of (K:=X.K) hp);have hd:Qu (.lst xs)=1+hU xs:=by simp[Qu]
  by_cases QP:q=p;·subst QP;exact SeqAt.EqAt.same _
  ·have l1:=rv.length;have l2:=HE.length;have l3:=dD.length rd;have l4:=dD.length re;have :=SeqAt.EqAt.of_refs QP (SeqAt.RcAt.lists (A:=A) pt.isList PV.isList (by simp only[List.size_toArray];omega) (by omega) (e:=λ_=>true) λj h1 h2=>by have :=K0 I xs A.in1 vs us aI lL rd re rv HE n (by show A.units+1+hU xs<cLine;omega) j (by simpa using h1) (by simpa using h2);simpa using this);have e:((List.range aI.toArray.size).all (λ_=>true))=true:=by simp
   rw[e]at this;exact this theorem K0(I:Inv X pins σ H s):∀(xs:List DX)(A:Around)(vs us:List V)(aI lL:List Value),dD H xs vs->dD H xs us->Vals vs aI->Vals us lL->yw xs=true->A.units+hU xs<cLine->∀(j:Nat)(h1:j<aI.length)(h2:j<lL.length),SeqAt.EqAt A s aI[j] lL[j] true
 |[],A,vs,us,aI,lL,r,r',k,k',n,hu,j,h1,h2=>by cases(show vs=[]from r);cases k;exact absurd h1 (Nat.not_lt_zero _)
 |x::xs,A,vs,us,aI,lL,r,r',k,k',n,hu,j,h1,h2=>by
  obtain⟨v,vs,rfl,q,t⟩:=r;obtain⟨u,us,rfl,q',t'⟩:=r';have n:(nbX x&&yw xs)=true:=n;rw[Bool.and_eq_true]at n;have hd:hU (x::xs)=max (Qu x) (hU xs):=by simp[hU]
  cases k with|cons k1 k2=>cases k' with|cons k1' k2'=>cases j with|zero=>exact eqX I x A v u _ _ q q' k1 k1' n.1 (by omega)|succ j=>exact K0 I xs A vs us _ _ t t' k2 k2' n.2 (by omega) j (by simpa using h1) (by simpa using h2)end
end
noncomputable def KJ(z:Bool):R2:=λx y H Q=>∃xs:List DX,uY H (.tup xs) x/\uY H (.tup xs) y/\yw xs=true/\hU xs<=80/\Q (.bl z) H
theorem MG{X:Cx}(hu:X.A.units+84<cLine):jB X (compareOp .Eq) (KJ true):=by
 intro pins s σ H x y v u Q I rx ry h;obtain⟨xs,⟨q,vs,rfl,hq,rd⟩,⟨p,us,rfl,hp,re⟩,n,hd,h⟩:=h;cases rx;cases ry;obtain⟨aI,rv,pt,_⟩:=I.tuple (bN.of (K:=X.K) hq);obtain⟨lL,HE,PV,_⟩:=I.tuple (bN.of (K:=X.K) hp);have l1:=rv.length;have l2:=HE.length;have l3:=dD.length rd;have l4:=dD.length re;refine SeqAt.eq_tupleAt pt PV (e:=λ_=>true) (by omega) (λj h1 h2=>?_) ⟨.bl true,H,I,?_,h⟩;·have :=K0 I xs X.A.in1 vs us aI lL rd re rv HE n (by show X.A.units+1+hU xs<cLine;omega) j (by simpa using h1) (by simpa using h2);simpa using this
 ·show Value.bool _=Value.bool true;congr 1;rw[Bool.and_eq_true];refine⟨by simp,?_⟩;simp only[List.size_toArray,beq_iff_eq];omega
end L3
namespace L3
open PySem PySem.Spec PyProof.Rows L2 KM
theorem Kj{X:Cx}(hu:X.A.units+84<cLine):jB X (compareOp .NotEq) (KJ false):=by
 intro pins s σ H x y v u Q I rx ry h;obtain⟨xs,⟨q,vs,rfl,hq,rd⟩,⟨p,us,rfl,hp,re⟩,n,hd,h⟩:=h;cases rx;cases ry;obtain⟨aI,rv,pt,_⟩:=I.tuple (bN.of (K:=X.K) hq);obtain⟨lL,HE,PV,_⟩:=I.tuple (bN.of (K:=X.K) hp);have l1:=rv.length;have l2:=HE.length;have l3:=dD.length rd;have l4:=dD.length re;refine SeqAt.RcNeAt.tuples pt PV (e:=λ_=>true) (by omega) (λj h1 h2=>?_) _ _ _ _ ⟨.bl false,H,I,?_,h⟩;·have :=K0 I xs X.A.in1 vs us aI lL rd re rv HE n (by show X.A.units+1+hU xs<cLine;omega) j (by simpa using h1) (by simpa using h2);simpa using this
 ·have e:((List.range (min aI.toArray.size lL.toArray.size)).all (λ_=>true)&&aI.toArray.size==lL.toArray.size)=true:=by rw[Bool.and_eq_true];refine⟨by simp,?_⟩;simp only[List.size_toArray,beq_iff_eq];omega
  show Value.bool _=Value.bool false;congr 1;rw[e];rfl
noncomputable def Yx(sp:Sp)(t:TA)(c:V):TB:=λD G σ H=>t σ H λvs H1=>sp vs H1 (λx H2=>∀p,H2 p=none->D.rt (.ref p) (upd H2 p (.tup [c,x]))) λCv _ H2=>∃C,Cv= .ref C/\G C σ H2
theorem Ab{X:Cx}{x:Str}{k:Nat}{ps:List Str}{sp:Sp}{e:Expr}{es:List Expr}{t:TA}{y:Str}{x1}{n1:Nat}{p pos pos' p1 p2:Pos}(F:bI X.prog X.w X.K X.mg (eJ X.prog X.w) x k ps sp)(hr:cI k X.A)(hg:Gl X x)(hx:X.ex=[])(ha:PA X.Ka (e::es) t)(vY:(x==("__debug__":Str))=false:=by decide)(he:starEach (e::es) X.env=(false,eval e X.env)::starEach es X.env:=by rfl)(wy:(backTo pos (starEach es X.env)).any (·.1)=false:=by rfl)(hc:X.calm=true:=by rfl):PB X [.Return (some (.Tuple [.Constant (.str y) n1 p1, .Call (.Name x p) (e::es) [] pos] x1 p2)) pos'] (Yx sp t (.str y)):=by intro pins s σ H D G I h;refine wpAny_execs_cons (wpAny_Return_some (wpAny_Tuple_spliced ?_));refine Calls.spliced_cons ?_;show wpAny _ _ (eval (.Constant (.str y) n1 p1) X.env) _ _ s;refine Calls.Constant_str ?_;show wpAny _ _ (spliced [(false,eval (.Call (.Name x p) (e::es) [] pos) X.env)]) _ _ _;refine Calls.spliced_cons (bG (SU F hr hg hx ha vY he wy hc (I.tok _) h) λv s1⟨z,H1,I1,r1,q1⟩=>Calls.spliced_nil ⟨by show 2<=sizeLine;decide,?_⟩);have hf:H1 s1.heap.objs.size=none:=I1.bJ.fresh (Nat.le_refl _);refine⟨.ref s1.heap.objs.size,σ,upd H1 s1.heap.objs.size (.tup [.str y,z]),I1.laid (t':=s1.toks) (λb u e=>Heap.get?_push_of_some _ e) (Nat.le_refl _) ?_,rfl,q1 _ hf⟩;exact⟨(by show 2<=sizeLine;decide),[.str y s.toks,v], .cons ⟨_,rfl⟩ (.cons r1 .nil),⟨_,Heap.get?_push_size _ rfl,rfl,_,rfl⟩⟩
end L3
end
section
namespace L3
open PySem PySem.Spec PyProof.Rows L2
theorem iI{X:Cx}{K:PySem.W.Frag}{a C:Addr}{oe:Obj}(hp:X.base.get? a=some oe)(hc:oe.cls= .ref C)(hK:X.K=K:=by rfl):jl X (.builtin "isinstance") (λxs H Q=>∃y c b,xs=[.ref a,y]/\uZ K C/\(∀u,RelV y u->u=c)/\PySem.W.kitOne K (.ref C) c=some b/\Q (.bl b) H):=by subst hK;intro pins s σ H xs us Q I r h;obtain⟨y,c,b,rfl,G,inj,e,q⟩:=h;obtain⟨u,v,rfl,ru,rv⟩:=r.two;cases ru;obtain rfl:=inj v rv;exact PySem.W.kia_one (mq G) I.iY ⟨oe,I.bk a oe hp,hc⟩ e (λz=>nomatch z) λtk=>⟨.bl b,H,I.tok tk,rfl,q⟩
theorem Gy:∀{cs:List Addr}{us:List Value},Vals (cs.map V.ref) us->us=cs.map Value.ref|[],_, .nil=>rfl|c::cs,_, .cons r t=>by cases r;rw[Gy t];rfl
theorem IH{X:Cx}{K:PySem.W.Frag}{a C:Addr}{oe:Obj}(hp:X.base.get? a=some oe)(hc:oe.cls= .ref C)(hK:X.K=K:=by rfl):jl X (.builtin "isinstance") (λxs H Q=>∃(tp:Addr)(cs:List Addr)(b:Bool),xs=[.ref a, .ref tp]/\uZ K C/\H tp=some (.tup (cs.map V.ref))/\PySem.W.kitAny K (.ref C) (cs.map Value.ref)=some b/\Q (.bl b) H):=by subst hK;intro pins s σ H xs us Q I r h;obtain⟨tp,cs,b,rfl,G,V8,e,q⟩:=h;obtain⟨u,v,rfl,ru,rv⟩:=r.two;cases ru;cases rv;obtain⟨z,aI,hv,⟨oc,od,od2,BG⟩,ho,Ob,n,hd⟩:=I.bJ tp _ V8;have :=Gy hv;subst this;cases Ob;cases hd;have ht:=ho;exact PySem.W.kia_tup (mq G) I.iY ⟨oe,I.bk a oe hp,hc⟩ ht e (λz=>nomatch z) λtk=>⟨.bl b,H,I.tok tk,rfl,q⟩
end L3
end
section
namespace L3
open PySem PySem.Spec PyProof.Rows L2 KM
noncomputable def Tn(C a:Addr)(sp:Heap->Sp)(E:XK)(t:TA):TE:=λσ H Q=>t σ H λvs H1=>∀(b':Heap)(oe:Obj),oe.cls= .ref C->b'.get? a=some oe->sp b' vs H1 Q E
theorem Vm{X:Cx}{CX:nH}{x:Str}{k:Nat}{ps:List Str}{sp:Heap->Sp}{E:XK}{e:Expr}{es:List Expr}{t:TA}{p pos:Pos}{a C:Addr}{oe:Obj}(hpn:(a,oe)∈X.pn)(Ax:oe.cls= .ref C)(F:j7 X.prog X.w X.K X.mg CX x k ps sp)(hr:cI k X.A)(hg:Gl X x)(hx:Passes CX X E)(ha:PA X (e::es) t)(vY:(x==("__debug__":Str))=false:=by decide)(he:starEach (e::es) X.env=(false,eval e X.env)::starEach es X.env:=by rfl)(wy:(backTo pos (starEach es X.env)).any (·.1)=false:=by rfl)(hc:X.calm=true:=by rfl):PE X (.Call (.Name x p) (e::es) [] pos) (Tn C a sp E t):=by
 obtain⟨f,fd,F,m,kp,b⟩:=F;intro pins s σ H Q I h;refine wpAny_Call_Name_kw (gK I hg m ?_ vY);refine PySem.W.callWith_K (h₀:=X.base) I.ok.mod.ID kp (bG (ha pos pins s σ H _ I h) λus s1⟨vs,H1,I1,r,q⟩=>⟨I1.iY,?_⟩) he wy;have q:=q _ oe Ax ((zB I1).pin (a,oe) hpn);have hl:us.length=ps.length:=by rw[<-r.length];exact(F (xa s1.heap H1 (hI X.stack))).len _ _ _ _ q
 have bt:=b s1 us I1.iY (by rw[List.append_nil];exact hl);rw[List.append_nil]at bt;refine wpAny_call (codeAny_mono ((F _).run X.A X.stack s1 H1 ⟨us,[]⟩ us vs Q E hr (K_ I1 hc) bt r q) λr' s' hq=>?_);cases r' with|error e=>exact hx pins σ H1 s1 e s' I1 hq|ok fl=>cases fl with|ret u=>exact I1.after hq|next=>exact False.elim hq|brk=>exact False.elim hq|cont=>exact False.elim hq
end L3
end
section
set_option maxHeartbeats 4000000
namespace K26
open PySem L2 L3 KM PyProof.Rows
seal L2.PE L2.PS L2.eM L2.PT L2.PW L2.PA L2.PG L2.kW L2.PI L2.PC L2.PO L2.nj L2.PK L3.lr L3.PH L3.PB
variable{P:Program}{w:World}{K:PySem.W.Frag}{mg:Str->Option Value}{base:Heap}{t:jo}
structure Ek(K:PySem.W.Frag)(t:jo):Prop where
 gr:lh K t.br
 dr:lh K t.jF
 ns:lh K t.eK
 np:lh K t.bz
 ke:lh K t.fF
 cg:uZ K t.br
 cd:uZ K t.jF
 s1:PySem.W.subIn K (.ref t.br) (.ref t.fF)=some true
 s2:PySem.W.subIn K (.ref t.jF) (.ref t.fF)=some true
 vg:PySem.W.kitOne K (.ref t.br) (.type "ValueError")=some true
 vd:PySem.W.kitOne K (.ref t.jF) (.type "ValueError")=some true
 g0:PySem.W.kitOne K (.ref t.br) (.ref t.br)=some true
 d0:PySem.W.kitOne K (.ref t.jF) (.ref t.br)=some false
 g1:PySem.W.kitOne K (.ref t.br) (.ref t.bz)=some false
 d1:PySem.W.kitOne K (.ref t.jF) (.ref t.bz)=some false
 g2:PySem.W.kitOne K (.ref t.br) (.ref t.eK)=some false
 d2:PySem.W.kitOne K (.ref t.jF) (.ref t.eK)=some false
 g3:PySem.W.kitOne K (.ref t.br) (.ref t.jF)=some false
 d3:PySem.W.kitOne K (.ref t.jF) (.ref t.jF)=some true
 g4:PySem.W.kitOne K (.ref t.br) (.ref t.cF)=some false
 d4:PySem.W.kitOne K (.ref t.jF) (.ref t.cF)=some false
 g5:PySem.W.kitOne K (.ref t.br) (.ref t.gk)=some false
 d5:PySem.W.kitOne K (.ref t.jF) (.ref t.gk)=some false
 g6:PySem.W.kitOne K (.ref t.br) (.ref t.gF)=some false
 d6:PySem.W.kitOne K (.ref t.jF) (.ref t.gF)=some false
 g7:PySem.W.kitOne K (.ref t.br) (.ref t.eR)=some false
 d7:PySem.W.kitOne K (.ref t.jF) (.ref t.eR)=some false
 g8:PySem.W.kitOne K (.ref t.br) (.ref t.eN)=some false
 d8:PySem.W.kitOne K (.ref t.jF) (.ref t.eN)=some false
 g9:PySem.W.kitOne K (.ref t.br) (.ref t.gE)=some false
 d9:PySem.W.kitOne K (.ref t.jF) (.ref t.gE)=some false
 Vy:PySem.W.kitOne K (.ref t.br) (.ref t.gw)=some false
 d10:PySem.W.kitOne K (.ref t.jF) (.ref t.gw)=some false
 VO:PySem.W.kitOne K (.ref t.br) (.ref t.gN)=some false
 d11:PySem.W.kitOne K (.ref t.jF) (.ref t.gN)=some false
 VL:PySem.W.kitOne K (.ref t.br) (.ref t.c6)=some false
 d12:PySem.W.kitOne K (.ref t.jF) (.ref t.c6)=some false
 VF:PySem.W.kitOne K (.ref t.br) (.ref t.c5)=some false
 d13:PySem.W.kitOne K (.ref t.jF) (.ref t.c5)=some false
theorem vp{K:PySem.W.Frag}{x:Value}:∀{cs:List Value},(∀c∈cs,PySem.W.kitOne K x c=some false)->PySem.W.kitAny K x cs=some false|[],_=>rfl|c::cs,h=>by unfold PySem.W.kitAny;rw[h c (by simp),vp λc' hc=>h c' (List.mem_cons_of_mem _ hc)]
noncomputable def ZH(t:jo)(C:Addr)(x:Str):Prop:=(C=t.br/\x="great")\/(C=t.jF/\x="dry")
noncomputable def MH(t:jo)(base:Heap):Sp:=λvs H Q _=>∃(a C:Addr)(oe:Obj)(x:Str),vs=[.ref a]/\base.get? a=some oe/\oe.cls= .ref C/\ZH t C x/\∀H',aA H H'->Q (.str x) H'
theorem iB:aK ["_law_e","_law_found","_law_later"] ["_law_e"] (ae gO):=⟨rfl,rfl,rfl,by decide+kernel,rfl,by decide+kernel,by decide+kernel⟩
theorem DJ(D:Df K mg "_law_word" gO ["_law_e"])(M:Mg mg t)(X:Ek K t):j7 P w K mg b_ "_law_word" 1 ["_law_e"] (MH t):=by
 refine D.okB iB (λbase vs H Q E h=>?_) (λbase f cM A outer s H vs Q E hr h=>?_);·obtain⟨a,C,oe,x,rfl,_⟩:=h;rfl
 obtain⟨a,C,oe,x,rfl,H_,Ax,hw,q⟩:=h;refine⟨_,(ah (aD (i:=1) iB.nd rfl (by first|exact Or.inl rfl|exact Or.inr rfl) (fK (aa (bg (iI (K:=K) H_ Ax) rfl M.bS bH (aa (pv 0) (aa (bW M.g_Great rfl) af))) (aa (bg (iI (K:=K) H_ Ax) rfl M.bS bH (aa (pv 0) (aa (bW M.g_NoPlace rfl) af))) (aa (bg (iI (K:=K) H_ Ax) rfl M.bS bH (aa (pv 0) (aa (bW M.g_NoStep rfl) af))) (aa (bg (iI (K:=K) H_ Ax) rfl M.bS bH (aa (pv 0) (aa (bW M.g_Dry rfl) af))) af)))))) (ah (aD (i:=2) iB.nd rfl (by first|exact Or.inl rfl|exact Or.inr rfl) (bg (IH (K:=K) H_ Ax) rfl M.bS bH (aa (pv 0) (aa (ay (aa (bW M.g_NoVariable rfl) (aa (bW M.g_NoName rfl) (aa (bW M.g_NotAll rfl) (aa (bW M.g_NotSome rfl) (aa (bW M.g_NotSame rfl) (aa (bW M.g_Unlike rfl) (aa (bW M.g_NoText rfl) (aa (bW M.g_NoWord rfl) (aa (bW M.g_TwiceTold rfl) (aa (bW M.g_NotClosed rfl) af))))))))))) af)))) (ah (bB (L2.PW.pt (BR (lJ (pv 2)) (BR (CY (lJ (bg (iI (K:=K) H_ Ax) rfl M.bS bH (aa (pv 0) (aa (Fy M.yy wM rfl) af))))) (yu (aG Q9 (BK PySem.F.plainAttrs_list PySem.F.slot_list_count PySem.F.type_list_count IF (pv 1) (aa xw af)) aj (aM _)))))) (aq (aB ar)) aN) (aq (aB (aW fw (fK (aa ar (aa ar (aa ar (aa ar af))))) (BK PySem.F.plainAttrs_list PySem.F.slot_list_index PySem.F.type_list_index IY (pv 1) (aa xw af)) (λ_ _=>rfl))))))),?_⟩;try dsimp only[jb,c_]
 refine L5 ?_;intro _ _ _ _;rcases hw with⟨rfl,rfl⟩|⟨rfl,rfl⟩
 ·refine⟨_,rfl, .ref t.br, .ref t.br,true,rfl,X.cg,λu h=>h,X.g0,_,rfl, .ref t.bz, .ref t.bz,false,rfl,X.cg,λu h=>h,X.g1,_,rfl, .ref t.eK, .ref t.eK,false,rfl,X.cg,λu h=>h,X.g2,_,rfl, .ref t.jF, .ref t.jF,false,rfl,X.cg,λu h=>h,X.g3,(by show 4<=sizeLine;decide),λp hp=>?_⟩;have s1:=ag hp (.lst [V.bl true,V.bl false,V.bl false,V.bl false]);have h1:(upd H p (.lst [V.bl true,V.bl false,V.bl false,V.bl false])) p=some (.lst (([true,false,false,false]:List Bool).map V.bl)):=av;generalize upd H p (.lst [V.bl true,V.bl false,V.bl false,V.bl false])=H1 at s1 h1⊢;refine⟨_,rfl,(by show 10<=sizeLine;decide),λtp V8=>⟨tp,[t.cF,t.gk,t.gF,t.eR,t.eN,t.gE,t.gw,t.gN,t.c6,t.c5],false,rfl,X.cg,av,vp (λz hz=>?_),?_⟩⟩
  ·simp only[List.map_cons,List.map_nil,List.mem_cons,List.not_mem_nil,or_false]at hz;rcases hz with rfl|rfl|rfl|rfl|rfl|rfl|rfl|rfl|rfl|rfl;·exact X.g4
   ·exact X.g5
   ·exact X.g6
   ·exact X.g7
   ·exact X.g8
   ·exact X.g9
   ·exact X.Vy
   ·exact X.VO
   ·exact X.VL
   ·exact X.VF
  have t2:=ag V8 (.tup [V.ref t.cF,V.ref t.gk,V.ref t.gF,V.ref t.eR,V.ref t.eN,V.ref t.gE,V.ref t.gw,V.ref t.gN,V.ref t.c6,V.ref t.c5]);have h2:=t2 _ _ h1;generalize upd H1 tp (.tup [V.ref t.cF,V.ref t.gk,V.ref t.gF,V.ref t.eR,V.ref t.eN,V.ref t.gE,V.ref t.gw,V.ref t.gN,V.ref t.c6,V.ref t.c5])=H2 at t2 h2⊢;refine⟨_,rfl,false,rfl,nI ?_⟩;refine⟨_,rfl, .ty "ValueError", .type "ValueError",true,rfl,X.cg,λu h=>h,X.vg,true,rfl,nI ?_⟩;refine⟨_,rfl, .inl ⟨rfl,_,bQ.of h2⟩,p,_,true,rfl,rfl,bQ.of h2,rfl,_,rfl,nI ?_⟩;refine⟨(by show 4<=sizeLine;decide),λlp hlp=>?_⟩;have t3:=ag hlp (.lst [V.str "great", .str "place", .str "step", .str "dry"]);exact⟨_,rfl, .inl ⟨rfl,_,bQ.of (t3 _ _ h2)⟩,p,_,true,rfl,rfl,bQ.of (t3 _ _ h2),by decide,by decide,lp,_,_,_,rfl,rfl,bQ.of av,(show zK [V.str "great", .str "place", .str "step", .str "dry"] ((0:Nat):Int)=some (.str "great")from aF rfl),q _ (s1.trans (t2.trans t3))⟩
 ·refine⟨_,rfl, .ref t.br, .ref t.br,false,rfl,X.cd,λu h=>h,X.d0,_,rfl, .ref t.bz, .ref t.bz,false,rfl,X.cd,λu h=>h,X.d1,_,rfl, .ref t.eK, .ref t.eK,false,rfl,X.cd,λu h=>h,X.d2,_,rfl, .ref t.jF, .ref t.jF,true,rfl,X.cd,λu h=>h,X.d3,(by show 4<=sizeLine;decide),λp hp=>?_⟩;have s1:=ag hp (.lst [V.bl false,V.bl false,V.bl false,V.bl true]);have h1:(upd H p (.lst [V.bl false,V.bl false,V.bl false,V.bl true])) p=some (.lst (([false,false,false,true]:List Bool).map V.bl)):=av;generalize upd H p (.lst [V.bl false,V.bl false,V.bl false,V.bl true])=H1 at s1 h1⊢;refine⟨_,rfl,(by show 10<=sizeLine;decide),λtp V8=>⟨tp,[t.cF,t.gk,t.gF,t.eR,t.eN,t.gE,t.gw,t.gN,t.c6,t.c5],false,rfl,X.cd,av,vp (λz hz=>?_),?_⟩⟩
  ·simp only[List.map_cons,List.map_nil,List.mem_cons,List.not_mem_nil,or_false]at hz;rcases hz with rfl|rfl|rfl|rfl|rfl|rfl|rfl|rfl|rfl|rfl;·exact X.d4
   ·exact X.d5
   ·exact X.d6
   ·exact X.d7
   ·exact X.d8
   ·exact X.d9
   ·exact X.d10
   ·exact X.d11
   ·exact X.d12
   ·exact X.d13
  have t2:=ag V8 (.tup [V.ref t.cF,V.ref t.gk,V.ref t.gF,V.ref t.eR,V.ref t.eN,V.ref t.gE,V.ref t.gw,V.ref t.gN,V.ref t.c6,V.ref t.c5]);have h2:=t2 _ _ h1;generalize upd H1 tp (.tup [V.ref t.cF,V.ref t.gk,V.ref t.gF,V.ref t.eR,V.ref t.eN,V.ref t.gE,V.ref t.gw,V.ref t.gN,V.ref t.c6,V.ref t.c5])=H2 at t2 h2⊢;refine⟨_,rfl,false,rfl,nI ?_⟩;refine⟨_,rfl, .ty "ValueError", .type "ValueError",true,rfl,X.cd,λu h=>h,X.vd,true,rfl,nI ?_⟩;refine⟨_,rfl, .inl ⟨rfl,_,bQ.of h2⟩,p,_,true,rfl,rfl,bQ.of h2,rfl,_,rfl,nI ?_⟩;refine⟨(by show 4<=sizeLine;decide),λlp hlp=>?_⟩;have t3:=ag hlp (.lst [V.str "great", .str "place", .str "step", .str "dry"]);exact⟨_,rfl, .inl ⟨rfl,_,bQ.of (t3 _ _ h2)⟩,p,_,true,rfl,rfl,bQ.of (t3 _ _ h2),by decide,by decide,lp,_,_,_,rfl,rfl,bQ.of av,(show zK [V.str "great", .str "place", .str "step", .str "dry"] ((3:Nat):Int)=some (.str "dry")from aF rfl),q _ (s1.trans (t2.trans t3))⟩
end K26
end
section
set_option maxHeartbeats 4000000
namespace K26
open PySem L2 L3 KM PyProof.Rows
seal L2.PE L2.PS L2.eM L2.PT L2.PW L2.PA L2.PG L2.kW L2.PI L2.PC L2.PO L2.nj L2.PK L3.lr L3.PH L3.PB
variable{P:Program}{w:World}{K:PySem.W.Frag}{mg:Str->Option Value}{base:Heap}{t:jo}
noncomputable def N2(x:Str):D:= .tup [.str "refused", .str x]
noncomputable def Oo(g:Bool)(d:D):D:=if g=true then N2 "great"else .tup [.str "thing",d]
noncomputable def aaW(rs:List Az):Out->DX| .ok d=> .tup [.d (.str "thing"), .tup [.d d, .lst (rs.map λr=> .d (JI r))]]| .great=> .d (N2 "great")| .Ue=> .d (N2 "dry")
theorem RL{H:Hp}{d:D}{v:V}{ds:List D}{vs:List V}(r:Rep H d v)(t:bu H ds vs):bu H (d::ds) (v::vs):=rs r t
theorem LG{H:Hp}:∀{rs:List Az}{us:List V},bu H (rs.map JI) us->dD H (rs.map λr=>DX.d (JI r)) us|[],us,h=>h|r::rs,_,⟨v,us,e,h,t⟩=>⟨v,us,e,h,LG t⟩
structure To(H:Hp)(T1 T2:Addr)(B:Str->D)(d:D)(v:V)(pl:List Int)(pw:V)(b:Addr)(aC:List (Key×V)):Prop where
 r:Rep H d v
 p:Rep H (Qc pl) pw
 b:H b=some (.dK aC)
 B:Jq H aC B
 t:IK H T1 T2
theorem To.mono{H H':Hp}{T1 T2:Addr}{B:Str->D}{d:D}{v:V}{pl:List Int}{pw:V}{b:Addr}{aC:List (Key×V)}(h:To H T1 T2 B d v pl pw b aC)(s:aA H H'):To H' T1 T2 B d v pl pw b aC:=⟨h.r.mono s,h.p.mono s,s _ _ h.b,h.B.mono s,h.t.mono s⟩
noncomputable def Kx(T1 T2:Addr):Sp:=λvs H Q _=>∃(B:Str->D)(d:D)(v:V)(pl:List Int)(pw:V)(r:Str)(b:Addr)(aC:List (Key×V))(fuel:Nat)(y:Int),vs=[.int y,v,pw, .str r, .int (fuel:Nat), .ref b]/\To H T1 T2 B d v pl pw b aC/\((y<2/\0<=y/\∃(e':D)(g:Bool),Jb (iR aC) B d pl r e' g/\∀(u:V)(H':Hp),aA H H'->Rep H' (Oo (g||bx (putD d pl e')) (putD d pl e')) u->Q u H')\/(y=2/\Rz d 60/\∃(rs:List Az)(res:Out),Run (iR aC) B res fuel rs d/\rs.length<=1000/\∀(u:V)(H':Hp),aA H H'->uY H' (aaW rs res) u->Q u H'))
theorem mI:aK ["_law_way","_law_thing","_law_place","_law_rule","_law_fuel","_law_book","_law_e"] ["_law_way","_law_thing","_law_place","_law_rule","_law_fuel","_law_book"] (ae gs):=⟨rfl,rfl,rfl,by decide+kernel,rfl,by decide+kernel,by decide+kernel⟩
theorem C7{T1 T2:Addr}(D:Df K mg "_law_told" gs ["_law_way","_law_thing","_law_place","_law_rule","_law_fuel","_law_book"])(M:Mg mg t)(X:Ek K t)(gg:bI P w K mg (eJ P w) "stepped" (128) ["thing","place","book"] (zF t.br T1 T2))(Mp:bI P w K mg (eJ P w) "walked" (129) ["thing","log","book"] (Ks t.br T1 T2))(Mx:bI P w K mg (eJ P w) "normal" (129) ["thing","fuel","book"] (Bz t.br t.jF T1 T2))(CP:j7 P w K mg b_ "_law_word" 1 ["_law_e"] (MH t)):bI P w K mg b_ "_law_told" (140) ["_law_way","_law_thing","_law_place","_law_rule","_law_fuel","_law_book"] (Kx T1 T2):=by
 refine D.ok mI (λvs H Q E h=>?_) (λbase f cM A outer s H vs Q E hr h=>?_);·obtain⟨B,d,v,pl,pw,r,b,aC,fuel,y,rfl,_⟩:=h;rfl
 obtain⟨B,d,v,pl,pw,r,b,aC,fuel,y,rfl,T,h⟩:=h;have xc:=X.ke;have hh:=hr.hd (by decide);refine⟨_,(aq (Uq rfl rfl rfl (MO (aG cj (pv 0) aj (aM _)) (Ab gg (hr.mono (by omega)) rfl rfl (aa (pv 1) (aa (pv 2) (aa (pv 5) af)))) (MO (aG cj (pv 0) aj (aM _)) (Ab Mp (hr.mono (by omega)) rfl rfl (aa (pv 1) (aa (fK (aa (ay (aa (pv 2) (aa (pv 3) af))) af)) (aa (pv 5) af)))) (Ab Mx (hr.mono (by omega)) rfl rfl (aa (pv 1) (aa (pv 4) (aa (pv 5) af)))))) (W5 (i:=6) true mI.nd rfl rfl xc M.g_KeeperError rfl (λ_=>hh) (λa C oe Ax=>(aq (aB (ay (aa ar (aa (Vm List.mem_cons_self Ax CP ((hr.mono (by omega)).mark) rfl aU (aa (pv 6) af)) af)))))) SV))),?_⟩;try dsimp only[jb,c_]
 rcases h with⟨y2,y0,e',g,ok,qq⟩|⟨rfl,rz,rs,res,run,lrs,qq⟩
 ·have thg:∀(z:V)(H1:Hp)(p:Addr),aA H H1->(g||bx (putD d pl e'))=false->Rep H1 (putD d pl e') z->H1 p=none->Q (.ref p) (upd H1 p (.tup [V.str "thing",z])):=λz H1 p s1 hg r1 hp=>by rw[hg]at qq;exact qq _ _ (s1.trans (ag hp _)) (aE hp (RL dU (RL r1 r0)))
  have ref:∀(H1:Hp)(p:Addr),aA H H1->(g||bx (putD d pl e'))=true->H1 p=none->Q (.ref p) (upd H1 p (.tup [V.str "refused", .str "great"])):=λH1 p s1 hg hp=>by rw[hg]at qq;exact qq _ _ (s1.trans (ag hp _)) (aE hp (RL dU (RL dU r0)))
  refine⟨_,rfl,rfl,_,rfl,aZ (λ_=>?_) (λc=>?_)⟩;·refine⟨_,rfl,_,rfl,_,rfl,B,d,e',v,pw,pl,b,aC,r,g,rfl,T.r,T.p,T.b,T.B,ok,T.t,λz H1 s1 hg r1=>λp hp=>thg z H1 p s1 hg r1 hp,λH1 s1 hg=>⟨_,rfl,λa1 jG=>⟨true,X.s1,AI ?_⟩⟩⟩;exact⟨_,rfl,λb' oe Ax Oa=>⟨a1,_,oe,"great",rfl,Oa,Ax, .inl ⟨rfl,rfl⟩,λH2 s2=>⟨(by show 2<=sizeLine;decide),λp hp=>ref H2 p (s1.trans s2) hg hp⟩⟩⟩
  ·have y1:y=1:=by have :V.int y≠V.int 0:=λz=>c (decide_eq_true z);have :y≠0:=λz=>this (by rw[z]);omega
   subst y1;refine⟨_,rfl,rfl,_,rfl,aZ (λ_=>?_) (λc=>absurd (decide_eq_true rfl) c)⟩;refine⟨_,rfl,_,rfl,_,rfl,(by show 2<=sizeLine;decide),λp1 lC=>⟨(by show 1<=sizeLine;decide),λp2 Ck=>?_⟩⟩;have t1:=ag lC (.tup [pw, .str r]);have t2:=ag Ck (.lst [V.ref p1]);have h1:=t2 _ _ (show(upd H p1 (.tup [pw, .str r])) p1=some (.tup [pw, .str r])from av);have h2:(upd (upd H p1 (.tup [pw, .str r])) p2 (.lst [V.ref p1])) p2=some (.lst [V.ref p1]):=av;have s0:=t1.trans t2;generalize upd (upd H p1 (.tup [pw, .str r])) p2 (.lst [V.ref p1])=H0 at s0 h1 h2⊢;have T0:=T.mono s0;refine⟨_,rfl,B,d,e',v,pw,pl,b,p2,p1,aC,r,g,rfl,T0.r,h2,h1,T0.p,T0.b,T0.B,ok,T0.t,λz H1 s1 hg r1=>λp hp=>thg z H1 p (s0.trans s1) hg r1 hp,λH1 s1 hg=>⟨_,rfl,λa1 jG=>⟨true,X.s1,AI ?_⟩⟩⟩;exact⟨_,rfl,λb' oe Ax Oa=>⟨a1,_,oe,"great",rfl,Oa,Ax, .inl ⟨rfl,rfl⟩,λH2 s2=>⟨(by show 2<=sizeLine;decide),λp hp=>ref H2 p (s0.trans (s1.trans s2)) hg hp⟩⟩⟩
 ·refine⟨_,rfl,rfl,_,rfl,aZ (λc=>absurd (of_decide_eq_true c) (by decide)) (λ_=>?_)⟩;refine⟨_,rfl,rfl,_,rfl,aZ (λc=>absurd (of_decide_eq_true c) (by decide)) (λ_=>?_)⟩;refine⟨_,rfl,_,rfl,_,rfl,B,d,v,fuel,b,aC,rs,res,rfl,T.r,rz,T.b,T.B,run,lrs,T.t,λd' p lg us u H1 er s1 lC Pf rl ru=>λp' hp'=>?_,λer H1 s1=>⟨_,rfl,λa1 jG=>⟨true,X.s1,AI ?_⟩⟩,λer H1 s1=>⟨_,rfl,λa1 jG=>⟨true,X.s2,AI ?_⟩⟩⟩;·rw[er]at qq;have t1:=ag hp' (.tup [V.str "thing", .ref p]);refine qq _ _ (s1.trans t1) ⟨p',_,rfl,av,⟨_,_,rfl,⟨rfl,by decide⟩,⟨_,_,rfl,⟨p,_,rfl,t1 _ _ lC,⟨_,_,rfl,ru.mono t1,⟨_,_,rfl,⟨lg,_,rfl,t1 _ _ Pf,LG (rl.mono t1)⟩,rfl⟩⟩⟩,rfl⟩⟩⟩
  ·rw[er]at qq;exact⟨_,rfl,λb' oe Ax Oa=>⟨a1,_,oe,"great",rfl,Oa,Ax, .inl ⟨rfl,rfl⟩,λH2 s2=>⟨(by show 2<=sizeLine;decide),λp hp=>qq _ _ (s1.trans (s2.trans (ag hp _))) (aE hp (RL dU (RL dU r0)))⟩⟩⟩
  ·rw[er]at qq;exact⟨_,rfl,λb' oe Ax Oa=>⟨a1,_,oe,"dry",rfl,Oa,Ax, .inr ⟨rfl,rfl⟩,λH2 s2=>⟨(by show 2<=sizeLine;decide),λp hp=>qq _ _ (s1.trans (s2.trans (ag hp _))) (aE hp (RL dU (RL dU r0)))⟩⟩⟩
end K26
end
section
set_option maxHeartbeats 4000000
namespace K26
open PySem L2 L3 KM PyProof.Rows
noncomputable def gv:D:= .tup [.str "nat"]
noncomputable def bT:D:= .tup [.str "zero"]
noncomputable def dN(d:D):D:= .tup [.str "next",d]
variable{inb:Str->Bool}{d e:D}
theorem e9{x:Str}{ps:List D}(h1:eG inb (.tup (.str x::ps))=none)(h2:cQ x=false):b9 inb (.tup (.str x::ps))=eF inb 0 ps:=by rw[qy,h1];show eF inb 0 (aH x ps)=_;unfold aH;rw[h2];rfl
theorem ir{i:Nat}{ds:List D}(h:b9 inb d=none):eF inb i (d::ds)=eF inb (i+1) ds:=by rw[eF,h]
theorem AD{i:Nat}{r:Az}{ds:List D}(h:b9 inb d=some r):eF inb i (d::ds)=some (i::r.1,r.2):=by rw[eF,h]
theorem f_{i:Nat}:eF inb i []=none:=by rw[eF]
theorem OG:b9 inb gv=none:=by rw[gv,e9 (by kernel_rfl) (by decide+kernel),f_]
theorem vX:b9 inb bT=none:=by rw[bT,e9 (by kernel_rfl) (by decide+kernel),f_]
theorem Pb(i:Int):b9 inb (.tup [.str "var", .int i])=none:=by rw[qy,show eG inb (.tup [.str "var", .int i])=none by kernel_rfl];show eF inb 0 (aH "var" [.int i])=none;rw[show aH "var" [.int i]=[]by kernel_rfl,f_]
theorem Tf{r:Az}(h:b9 inb d=some r):b9 inb (dN d)=some (0::r.1,r.2):=by rw[dN,e9 (by kernel_rfl) (by decide+kernel),AD h]
theorem Ad(h:b9 inb d=none):b9 inb (dN d)=none:=by rw[dN,e9 (by kernel_rfl) (by decide+kernel),ir h,f_]
structure Cs(inb:Str->Bool)(B:Str->D)(m:Nat)(one made:D)(r:Str)(pl:List Nat):Prop where
 fst:b9 inb one=some (pl,r)
 wf:bU aP false one=true
 Vw:bU aP false made=true
 dp:depth one<=m
 dm:depth made<=m
 ln:pl.length<=m
 nm:r≠"next"->b9 inb made=none
 ex:∃(e e':D)(g:Bool),goto one (mU pl)=some e/\Wf e/\cR inb e= .str r/\Oj B e r e' g/\putD one (mU pl) e'=made/\(g=true->bx made=true)
theorem ND(h:bx d=true):bx (dN d)=true:=by
 have h:(cE d||c8 d)=true:=h;show(cE (.tup [.str "next",d])||c8 (.tup [.str "next",d]))=true;rw[Bool.or_eq_true]at h⊢;rcases h with h|h;·left;unfold cE at h⊢;simp only[depth,az,cf,bF];simp at h⊢;omega
 ·right;simp[c8,eW,h]
theorem Lh:dB (dN d) ((0:Nat):Int)=some d:=by unfold dB;rw[if_pos (by decide)];kernel_rfl
theorem Cs.next{B:Str->D}{m:Nat}{one made:D}{r:Str}{pl:List Nat}(h:Cs inb B m one made r pl):Cs inb B (m+1) (dN one) (dN made) r (0::pl):=by
 obtain⟨e,e',g,h1,h2,h3,h4,h5,h6⟩:=h.ex;have a1:=h.dp;have a2:=h.dm;have a3:=h.ln;refine⟨Tf h.fst,kH h.wf,kH h.Vw,?_,?_,?_,λz=>Ad (h.nm z),e,e',g,?_,h2,h3,h4,?_,λz=>ND (h6 z)⟩;·simp only[dN,depth,az];omega
 ·simp only[dN,depth,az];omega
 ·rw[List.length_cons];omega
 ·show goto (dN one) (((0:Nat):Int)::mU pl)=_;rw[fV Lh];exact h1
 ·show putD (dN one) (((0:Nat):Int)::mU pl) e'=_;have :putD (dN one) (((0:Nat):Int)::mU pl) e'= .tup (.str "next"::[one].set 0 (putD one (mU pl) e')):=u9 (x:="next") (ps:=[one]) Lh;rw[this,h5];rfl
noncomputable def dJ:Nat->D->D|0,d=>d|n+1,d=>dN (dJ n d)
theorem Cs.QQ{B:Str->D}{m:Nat}{one made:D}{r:Str}{pl:List Nat}(h:Cs inb B m one made r pl):∀k:Nat,Cs inb B (m+k) (dJ k one) (dJ k made) r (List.replicate k 0++pl)|0=>h|k+1=>(h.QQ k).next
section
variable{B:Str->D}{m:Nat}{one made:D}{r:Str}{pl:List Nat}
theorem Cs.st(h:Cs inb B m one made r pl)(hm:m<60):∃(e':D)(g:Bool),Jb inb B one (mU pl) r e' g/\putD one (mU pl) e'=made/\(g||bx made)=bx made:=by
 obtain⟨e,e',g,h1,h2,h3,h4,h5,h6⟩:=h.ex;have a2:=h.dm;have a3:=h.ln;refine⟨e',g,⟨⟨e,h1,h2,h3,h4⟩,⟨_,h.wf⟩,?_,?_⟩,h5,?_⟩;·show(List.map _ pl).length<100;rw[List.length_map];omega
 ·rw[h5];exact⟨⟨_,h.Vw⟩,by omega,Nat.zero_le _⟩
 ·cases hg:g with|false=>rfl|true=>rw[h6 hg];rfl
theorem Cs.Ue(h:Cs inb B m one made r pl):Run inb B .Ue 0 [] one:= .inr ⟨(pl,r),h.fst, .inl ⟨rfl,rfl⟩⟩
theorem Cs.great(h:Cs inb B m one made r pl)(hm:m<60)(hg:bx made=true):Run inb B .great 1 [] one:=by obtain⟨e',g,ok,ep,eg⟩:=h.st hm;exact .inr ⟨(pl,r),h.fst, .inr ⟨by decide,rfl,e',g,ok,by rw[show putD one (mU (pl,r).1) e'=made from ep,eg,hg]⟩⟩
theorem Cs.ok(h:Cs inb B m one made r pl)(hm:m<60)(hr:r≠"next")(hg:bx made=false):Run inb B (.ok made) 1 [(pl,r)] one:=by
 obtain⟨e',g,ok,ep,eg⟩:=h.st hm;refine⟨by decide,e',g,h.fst,ok,?_,?_⟩;·show(g||bx (putD one (mU pl) e'))=false;rw[ep,eg,hg]
 ·show Run inb B (.ok made) (1-1) [] (putD one (mU pl) e');rw[ep];exact .inl ⟨h.nm hr,rfl⟩
end
end K26
end
section
set_option maxHeartbeats 4000000
namespace K26
open PySem L2 L3 KM PyProof.Rows
seal L2.PE L2.PS L2.eM L2.PT L2.PW L2.PA L2.PG L2.kW L2.PI L2.PC L2.PO L2.nj L2.PK L3.lr L3.PH L3.PB
variable{P:Program}{w:World}{K:PySem.W.Frag}{mg:Str->Option Value}{base:Heap}{t:jo}
section
variable{inb:Str->Bool}{d e:D}{g:Int->Int->D}{n:Nat}{b:Int}
theorem B1{x:Str}{ps:List D}(hv:x≠"var")(hl:cQ x=false)(hp:ps≠[]):iX g (n+1) b (.tup (.str x::ps))= .tup (.str x::(List.range ps.length).map λi=>iX g n (b+Cy x i) ((ps[i]?).getD .ba)):=by
 conv=>lhs;unfold iX
 rw[if_neg hv];have e:aH x ps=ps:=by unfold aH;rw[hl];rfl
 rw[e];unfold fg;rw[if_neg];intro z;have :=congrArg List.length z;rw[List.length_map,List.length_range]at this;exact hp (List.length_eq_zero_iff.mp this)
theorem Bs{x:Str}(hv:x≠"var"):iX g n b (.tup [.str x])= .tup [.str x]:=by
 cases n with
  |zero=>unfold iX;rfl
  |succ n=>
   conv=>lhs;unfold iX
   rw[if_neg hv];have e:aH x []=[]:=by unfold aH;split<;>rfl
   rw[e];rfl
theorem PY:iX g n b gv=gv:=Bs (by decide+kernel)
theorem M3:iX g n b bT=bT:=Bs (by decide+kernel)
theorem zR{i:Int}:iX g (n+1) b (.tup [.str "var", .int i])=if b<=i then g (i-b) b else .tup [.str "var", .int i]:=by rw[iX,if_pos rfl]
theorem U3{x:D}:iX g (n+1) b (.tup [.str "next",x])= .tup [.str "next",iX g n b x]:=by rw[B1 (by decide+kernel) (by decide+kernel) (by simp)];show KM.D.tup [.str "next",iX g n (b+Cy "next" 0) x]=_;rw[show Cy "next" 0=0 by kernel_rfl,Int.add_zero]
theorem Pl{nm:D->Bool}{d0 d1 d2:D}(h0:bU nm true d0=true)(h1:bU nm false d1=true)(h2:bU nm false d2=true):bU nm false (.tup [.str "pair",d0,d1,d2])=true:=by refine fO (w:="pair") (s:="ktt") (by decide+kernel) (by decide+kernel) ?_;rw[show(Str.ofString "ktt").cps.toList=[107,116,116]by decide+kernel,aT,aT,aT];simp[fj,gX,h0,h1,h2]
theorem e_:∀(k:Nat),(bU aP false d=true->bU aP false (dJ k d)=true)/\depth (dJ k d)=k+depth d|0=>⟨λh=>h,by show depth d=_;omega⟩|k+1=>by obtain⟨h1,h2⟩:=e_ k;refine⟨λh=>kH (h1 h),?_⟩;show depth (.tup [.str "next",dJ k d])=_;simp only[depth,az];omega
theorem yg(h:b9 inb d=none):∀k:Nat,b9 inb (dJ k d)=none|0=>h|k+1=>Ad (yg h k)
theorem qQ:∀(k n:Nat),iX g (n+k) b (dJ k d)=dJ k (iX g n b d)|0,n=>rfl|k+1,n=>by show iX g (n+k+1) b (.tup [.str "next",dJ k d])= .tup [.str "next",dJ k (iX g n b d)];rw[U3,qQ k n]
structure J4(d:D):Prop where
 wf:bU aP false d=true
 f:∀inb,b9 inb d=none
 h:CC d≠"fun"
theorem Ke{x y:D}(h1:b9 inb x=none)(h2:CC x≠"fun")(h3:b9 inb y=none):b9 inb (.tup [.str "app",x,y])=none:=by
 have e:eG inb (.tup [.str "app",x,y])=none:=by show Ze (if CC x="fun"then V.str "fun"else .ba)=none;rw[if_neg h2];rfl
 rw[e9 e (by decide+kernel),ir h1,ir h3,f_]
theorem P4:J4 bT:=⟨eQ,λ_=>vX,by show Str.ofString "zero"≠"fun";decide+kernel⟩
theorem Vn:J4 (dN bT):=⟨kH eQ,λ_=>Ad vX,by show Str.ofString "next"≠"fun";decide+kernel⟩
theorem SX(h:J4 d)(h':J4 e):J4 (.tup [.str "app",d,e]):=⟨lG h.wf h'.wf,λinb=>Ke (h.f inb) h.h (h'.f inb),by show Str.ofString "app"≠"fun";decide+kernel⟩
end
noncomputable def AQ(n:Nat):Sp:=λvs H Q _=>∃m:Int,vs=[.int m]/\1<=m/\m<2^n/\∀(d:D)(v:V)(H':Hp),aA H H'->Rep H' d v->J4 d->depth d<=n->Q v H'
theorem zp:aK ["_law_many"] ["_law_many"] (ae eC):=⟨rfl,rfl,rfl,by decide+kernel,rfl,by decide+kernel,by decide+kernel⟩
theorem zc{n:Nat}(D:Df K mg "_law_sized" eC ["_law_many"])(M:Mg mg t)(cW:bI P w K mg b_ "_law_sized" (n+1) ["_law_many"] (AQ n)):bI P w K mg b_ "_law_sized" (n+2) ["_law_many"] (AQ (n+1)):=by
 refine D.ok zp (λvs H Q E h=>?_) (λbase f cM A outer s H vs Q E hr h=>?_);·obtain⟨m,rfl,_⟩:=h;rfl
 obtain⟨m,rfl,m1,m2,q⟩:=h;rw[Int.pow_succ]at m2;have one:1<=sizeLine:=by decide
 refine⟨_,(ah (bB (aG cj (pv 0) aj (aM _)) (aq (aB (ay (aa ar af)))) aN) (ah (bB (aG cj (pv 0) aj (aM _)) (aq (aB (ay (aa ar (aa (ay (aa ar af)) af))))) aN) (aq (aB (ay (aa ar (aa (aO cW (hr.mono (by omega)) rfl aU (aa (bh ym (bh fL (pv 0) aj) aj) af)) (aa (aO cW (hr.mono (by omega)) rfl aU (aa (bh fL (bh fL (pv 0) aj) (bh ym (bh fL (pv 0) aj) aj)) af)) af)))))))),?_⟩;try dsimp only[jb,c_]
 refine Dk ?_;intro _ _ _;refine⟨_,rfl,rfl,_,rfl,aZ (λc=>?_) (λc=>?_)⟩;·exact⟨one,λp1 lC=>q _ _ _ (ag lC _) (aE lC (rs dU r0)) P4 (by simp only[depth,az];omega)⟩
 have c:m≠1:=λz=>c (by rw[z];exact decide_eq_true rfl);refine⟨_,rfl,rfl,_,rfl,aZ (λc2=>?_) (λc2=>?_)⟩;·have c2:V.int m=V.int 2:=of_decide_eq_true c2;injection c2 with c2;subst c2;refine⟨one,λp1 lC=>⟨(by show 2<=sizeLine;decide),λp2 Ck=>?_⟩⟩;have s1:=ag lC (.tup [V.str "zero"]);refine q _ _ _ (s1.trans (ag Ck _)) (aE Ck (rs dU (rs (aE lC (rs dU r0)) r0))) Vn ?_;cases n with|zero=>simp at m2|succ n=>simp only[depth,az];omega
 have c2:m≠2:=λz=>c2 (by rw[z];exact decide_eq_true rfl);refine⟨_,rfl,_,_,rfl,rfl,_,_,rfl,rfl,⟨by decide,by decide⟩,(m-1)/2,rfl,(by omega),(by omega),λd1 v1 H1 s1 r1 w1 a1=>?_⟩;refine⟨_,rfl,_,_,rfl,rfl,_,rfl,_,_,rfl,rfl,_,_,rfl,rfl,⟨by decide,by decide⟩,_,_,rfl,rfl,m-1-(m-1)/2,rfl,(by omega),(by omega),λd2 v2 H2 s2 r2 w2 a2=>?_⟩;refine⟨(by show 3<=sizeLine;decide),λp1 lC=>?_⟩;refine q _ _ _ (s1.trans (s2.trans (ag lC _))) (aE lC (rs dU (rs (r1.mono s2) (rs r2 r0)))) (SX w1 w2) ?_;simp only[depth,az];omega
theorem mv(D:Df K mg "_law_sized" eC ["_law_many"])(M:Mg mg t):∀n:Nat,bI P w K mg b_ "_law_sized" (n+1) ["_law_many"] (AQ n)|0=>bI.never D λvs H Q E⟨m,_,h1,h2,_⟩=>by have :m<1:=h2;omega|n+1=>zc D M (mv D M n)
noncomputable def zj:Sp:=λvs H Q _=>∃(m:Nat)(d:D)(v:V),vs=[.int (m:Nat),v]/\m<=100/\Rep H d v/\∀(v':V)(H':Hp),aA H H'->Rep H' (dJ m d) v'->Q v' H'
theorem gD:aK ["_law_many","_law_thing","_law_k"] ["_law_many","_law_thing"] (ae fB):=⟨rfl,rfl,rfl,by decide+kernel,rfl,by decide+kernel,by decide+kernel⟩
theorem AS(D:Df K mg "_law_nexts" fB ["_law_many","_law_thing"])(M:Mg mg t):bI P w K mg b_ "_law_nexts" (1) ["_law_many","_law_thing"] zj:=by
 refine D.ok gD (λvs H Q E h=>?_) (λbase f cM A outer s H vs Q E hr h=>?_);·obtain⟨m,d,v,rfl,_⟩:=h;rfl
 obtain⟨m,d,v,rfl,hm,r,q⟩:=h;refine⟨_,(ah (fJ PassesOwn.never rfl (fZ rfl M.lu (aa (pv 0) af)) (bA (i:=2) gD.nd rfl (by first|exact Or.inl rfl|exact Or.inr rfl)) (aq (aD (i:=1) gD.nd rfl (by first|exact Or.inl rfl|exact Or.inr rfl) (ay (aa ar (aa (pv 1) af)))))) (aq (aB (pv 1)))),?_⟩;try dsimp only[jb,c_]
 refine wO ?_;intro _ _;refine⟨_,rfl,_,rfl,(by omega),(by omega),?_⟩;rw[Int.toNat_natCast];let CF:Nat->L2.St->Hp->Prop:=(λj aY H'=>∃(v':V)(kv:Option V),aY=[some (.int (m:Nat)),some v',kv]/\aA H H'/\Rep H' (dJ j d) v');refine iC m CF ?_ ?_ ?_;·exact⟨v,none,rfl,aA.refl _,r⟩
 ·rintro j aY H1 hj⟨v',kv,rfl,s1,r1⟩;refine⟨hj,?_⟩;rintro x' H2⟨rfl,rfl⟩;refine⟨_,rfl,(by show 2<=sizeLine;decide),λp hp=>?_⟩;exact⟨_,_,rfl,s1.trans (ag hp _),aE hp (rs dU (rs r1 r0))⟩
 ·rintro aY H1⟨v',kv,rfl,s1,r1⟩;exact⟨Nat.le_refl _,_,rfl,q _ _ s1 r1⟩
end K26
end
section
set_option maxHeartbeats 4000000
namespace K26
open PySem L2 L3 KM PyProof.Rows
variable{inb:Str->Bool}{B:Str->D}{d e:D}
noncomputable def cU(i:Int):D:= .tup [.str "var", .int i]
noncomputable def g_(d:D):D:= .tup [.str "fun",gv,d]
theorem ij{x r:Str}{ps:List D}(h:eG inb (.tup (.str x::ps))=some r):b9 inb (.tup (.str x::ps))=some ([],r):=by rw[qy,h]
theorem jT:goto d (mU [])=some d:=by show goto d []=_;rw[goto]
theorem qu:putD d (mU []) e=e:=by show putD d [] e=_;rw[putD]
theorem O_{s bs:D}(hs:J4 s)(hb:bU aP false bs=true)(ds:depth s<=9)(db:depth bs<=9):Cs inb B 13 (.tup [.str "rec",gv,bs,s,dN bT]) (.tup [.str "app", .tup [.str "app",s,bT], .tup [.str "rec",gv,bs,s,bT]]) "next" []:=by
 have w1:bU aP false (.tup [.str "rec",gv,bs,s,dN bT])=true:=M8 lM hb hs.wf (kH eQ);refine⟨ij (by kernel_rfl),w1,lG (lG hs.wf eQ) (M8 lM hb hs.wf eQ),?_,?_,by decide,λz=>absurd rfl z,_,_,false,jT,⟨_,w1⟩,by kernel_rfl, .next,qu,λz=>nomatch z⟩;·simp only[gv,dN,bT,depth,az];omega
 ·simp only[gv,dN,bT,depth,az];omega
theorem KS{s:D}(hs:J4 s)(ds:depth s<=9):Cs inb B 13 (.tup [.str "first", .tup [.str "pair",gv,s,bT]]) s "first" []:=by have w1:bU aP false (.tup [.str "first", .tup [.str "pair",gv,s,bT]])=true:=NV (Pl lM hs.wf eQ);refine⟨ij (by kernel_rfl),w1,hs.wf,?_,by omega,by decide,λ_=>hs.f inb,_,_,false,jT,⟨_,w1⟩,by kernel_rfl, .first,qu,λz=>nomatch z⟩;simp only[gv,bT,depth,az];omega
theorem pS{y:Str}(h:inb y=true):cR inb (.tup [.str "name", .str y])= .str "name":=by simp[cR,me,Ho,h]
theorem PF{y:Str}(hs:J4 (B y))(ds:depth (B y)<=9)(h:inb y=true):Cs inb B 13 (.tup [.str "name", .str y]) (B y) "name" []:=by have w1:bU aP false (.tup [.str "name", .str y])=true:=Fu rfl;refine⟨ij (by unfold eG;rw[pS h];rfl),w1,hs.wf,?_,by omega,by decide,λ_=>hs.f inb,_,_,false,jT,⟨_,w1⟩,pS h, .name,qu,λz=>nomatch z⟩;simp only[depth,az];omega
theorem Py{y:Str}{s:D}(hs:J4 (B y))(ds:depth (B y)<=9)(h:inb y=true)(h2:J4 s)(d2:depth s<=9):Cs inb B 13 (.tup [.str "app", .tup [.str "name", .str y],s]) (.tup [.str "app",B y,s]) "name" [0]:=by
 have w0:bU aP false (.tup [.str "name", .str y])=true:=Fu rfl;have w1:=lG w0 h2.wf;have f0:b9 inb (.tup [.str "name", .str y])=some (([]:List Nat),Str.ofString "name"):=ij (by unfold eG;rw[pS h];rfl);have kd:dB (.tup [.str "app", .tup [.str "name", .str y],s]) ((0:Nat):Int)=some (.tup [.str "name", .str y]):=by unfold dB;rw[if_pos (by decide)];kernel_rfl
 refine⟨?_,w1,lG hs.wf h2.wf,?_,?_,by decide,λ_=>Ke (hs.f inb) hs.h (h2.f inb), .tup [.str "name", .str y],B y,false,?_,⟨_,w0⟩,pS h, .name,?_,λz=>nomatch z⟩;·rw[e9 (by kernel_rfl) (by decide+kernel),AD f0]
 ·simp only[depth,az];omega
 ·simp only[depth,az];omega
 ·show goto _ (((0:Nat):Int)::[])=_;rw[fV kd,goto]
 ·show putD _ (((0:Nat):Int)::[]) _=_;have :putD (.tup [.str "app", .tup [.str "name", .str y],s]) (((0:Nat):Int)::[]) (B y)= .tup (.str "app"::[KM.D.tup [.str "name", .str y],s].set 0 (putD (.tup [.str "name", .str y]) [] (B y))):=u9 (x:="app") (ps:=[.tup [.str "name", .str y],s]) kd;rw[this,putD];rfl
theorem Ny{bd o:D}(wb:bU aP false bd=true)(wo:bU aP false o=true)(db:depth bd<=30)(dO:depth o<=30)(wp:bU aP false (kC o 0 bd)=true)(dp:depth (kC o 0 bd)<=50)(hf:b9 inb (kC o 0 bd)=none):Cs inb B 50 (.tup [.str "app",g_ bd,o]) (kC o 0 bd) "fun" []:=by have w1:bU aP false (.tup [.str "app",g_ bd,o])=true:=lG (Ds lM wb) wo;refine⟨ij (by kernel_rfl),w1,wp,?_,dp,by decide,λ_=>hf,_,_,_,jT,⟨_,w1⟩,by kernel_rfl, .fn ⟨_,wb⟩ ⟨_,wo⟩ (by omega) (by omega) ⟨⟨_,wp⟩,by omega,Nat.zero_le _⟩,qu,λz=>z⟩;simp only[gv,g_,depth,az];omega
theorem nO(k j:Nat)(hk:k<=30)(hj:j<=30):kC (dJ j bT) 0 (dJ k (cU 0))=dJ k (dJ j bT):=by show iX (Dc (dJ j bT) 0) 58 0 (dJ k (cU 0))=_;rw[show(58:Nat)=(57-k+1)+k by omega,qQ,cU,zR,if_pos (by decide)];show dJ k (if(0:Int)-0=0 then iX (K9 0 0) 58 0 (dJ j bT)else _)=_;rw[if_pos (by decide),show(58:Nat)=(58-j)+j by omega,qQ,M3]
theorem O5(k:Nat)(i:Int)(hk:k<=30)(hi:0<=i):kC (cU i) 0 (g_ (dJ k (cU 1)))=g_ (dJ k (cU (i+0+1))):=by show iX (Dc (cU i) 0) 58 0 (g_ (dJ k (cU 1)))=_;unfold cU;rw[g_,show(58:Nat)=(56-k+1+k)+1 by omega,B1 (by decide+kernel) (by decide+kernel) (by simp)];show KM.D.tup [.str "fun",iX (Dc (.tup [.str "var", .int i]) 0) (56-k+1+k) (0+Cy "fun" 0) gv,iX (Dc (.tup [.str "var", .int i]) 0) (56-k+1+k) (0+Cy "fun" 1) (dJ k (.tup [.str "var", .int 1]))]=_;rw[show Cy "fun" 1=1 by kernel_rfl,PY,qQ,zR,if_pos (by decide)];show KM.D.tup [.str "fun",gv,dJ k (if(1:Int)-(0+1)=0 then iX (K9 (0+1) 0) 58 0 (.tup [.str "var", .int i])else _)]=_;rw[if_pos (by decide),show(58:Nat)=57+1 from rfl,zR,if_pos hi];show KM.D.tup [.str "fun",gv,dJ k (.tup [.str "var", .int (i-0+0+(if(0:Int)<=i-0 then 0+1 else 0))])]=_;rw[if_pos (by omega),show i-0+0+(0+1)=i+0+1 by omega];rfl
theorem Ut(k j:Nat)(hk:k<=22)(hj:j<=22):Cs inb B 50 (.tup [.str "app",g_ (dJ k (cU 0)),dJ j bT]) (dJ k (dJ j bT)) "fun" []:=by
 obtain⟨a1,a2⟩:=e_ (d:=cU 0) k;obtain⟨b1,b2⟩:=e_ (d:=bT) j;obtain⟨c1,c2⟩:=e_ (d:=dJ j bT) k;have d0:depth (cU 0)=1:=by simp[cU,depth,az]
 have d1:depth bT=1:=by simp[bT,depth,az]
 have :=Ny (inb:=inb) (B:=B) (bd:=dJ k (cU 0)) (o:=dJ j bT) (a1 (sX (Int.le_refl 0))) (b1 eQ) (by omega) (by omega) (by rw[nO k j (by omega) (by omega)];exact c1 (b1 eQ)) (by rw[nO k j (by omega) (by omega)];omega) (by rw[nO k j (by omega) (by omega)];exact yg (yg vX j) k);rw[nO k j (by omega) (by omega)]at this;exact this
theorem Sw(k:Nat)(i:Int)(hk:k<=2)(hi:0<=i):Cs inb B 50 (.tup [.str "app",g_ (g_ (dJ k (cU 1))),cU i]) (g_ (dJ k (cU (i+1)))) "fun" []:=by
 obtain⟨a1,a2⟩:=e_ (d:=cU 1) k;obtain⟨b1,b2⟩:=e_ (d:=cU (i+1)) k;have d0:depth (cU 1)=1:=by simp[cU,depth,az]
 have d1:depth (cU i)=1:=by simp[cU,depth,az]
 have d2:depth (cU (i+1))=1:=by simp[cU,depth,az]
 have e:kC (cU i) 0 (g_ (dJ k (cU 1)))=g_ (dJ k (cU (i+1))):=by rw[O5 k i (by omega) hi,Int.add_zero]
 have hf:b9 inb (g_ (dJ k (cU (i+1))))=none:=by rw[g_,e9 (by kernel_rfl) (by decide+kernel),ir OG,ir (yg (show b9 inb (cU (i+1))=none from Pb _) k),f_]
 have :=Ny (inb:=inb) (B:=B) (bd:=g_ (dJ k (cU 1))) (o:=cU i) (Ds lM (a1 (sX (by decide)))) (sX hi) (by simp only[g_,gv,depth,az];omega) (by omega) (by rw[e];exact Ds lM (b1 (sX (by omega)))) (by rw[e];simp only[g_,gv,depth,az];omega) (by rw[e];exact hf);rw[e]at this;exact this
end K26
end
section
set_option maxHeartbeats 4000000
namespace K26
open PySem L2 L3 KM PyProof.Rows
seal L2.PE L2.PS L2.eM L2.PT L2.PW L2.PA L2.PG L2.kW L2.PI L2.PC L2.PO L2.nj L2.PK L3.lr L3.PH L3.PB
variable{P:Program}{w:World}{K:PySem.W.Frag}{mg:Str->Option Value}{base:Heap}{t:jo}
theorem big{m:Nat}(h:m<=1000):m<=sizeLine:=Nat.le_trans h (by decide)
theorem WX(a b:Str):(a++b).length=a.length+b.length:=Array.size_append
noncomputable def D3:Sp:=λvs H Q _=>∃x:Str,vs=[.str x]/\x.length<=100/\∀(y:Str)(H':Hp),y.length<=101->aA H H'->Q (.str y) H'
theorem Ak:aK ["_law_word_here"] ["_law_word_here"] (ae fz):=⟨rfl,rfl,rfl,by decide+kernel,rfl,by decide+kernel,by decide+kernel⟩
theorem AA(D:Df K mg "_law_named" fz ["_law_word_here"])(M:Mg mg t):bI P w K mg b_ "_law_named" (1) ["_law_word_here"] D3:=by
 refine D.ok Ak (λvs H Q E h=>?_) (λbase f cM A outer s H vs Q E hr h=>?_);·obtain⟨x,rfl,_⟩:=h;rfl
 obtain⟨x,rfl,hx,q⟩:=h;refine⟨_,(ah (bB (aG lX (pv 0) (ay (aa ar (aa ar (aa ar (aa ar (aa ar (aa ar (aa ar (aa ar (aa ar (aa ar (aa ar (aa ar (aa ar af)))))))))))))) rfl) (aq (aB (bh vo (MP (pv 0) eS (gI (Lo CH aj)) eS) ar))) aN) (ah (bB (aG lX (pv 0) (ay (aa ar (aa ar (aa ar (aa ar (aa ar af)))))) rfl) (aq (aB (bh vo (MP (pv 0) eS (gI (Lo CH aj)) eS) ar))) aN) (aq (aB (pv 0))))),?_⟩;try dsimp only[jb,c_]
 refine Dk ?_;intro _ _ _;refine⟨_,rfl,(by show 13<=sizeLine;decide),λp1 lC=>⟨p1,(["nat","none","all","some","same","var","fun","app","zero","next","rec","like","carry"]:List Str).map V.str,rfl, .inr (bN.of av),rfl,rfl,_,rfl,?_⟩⟩;have s1:aA H _:=ag lC (.tup ((["nat","none","all","some","same","var","fun","app","zero","next","rec","like","carry"]:List Str).map V.str));refine aZ (λc=>?_) (λc=>?_);·refine⟨_,rfl,_,rfl,_,rfl,x,rfl,big (by omega),(by simp),λy hy=>⟨_,_,rfl,rfl,big (by show y.length+1<=1000;omega),q _ _ (by rw[WX];show y.length+1<=101;omega) s1⟩⟩
 ·refine⟨_,rfl,(by show 5<=sizeLine;decide),λp2 Ck=>⟨p2,(["never","pair","first","second","name"]:List Str).map V.str,rfl, .inr (bN.of av),rfl,rfl,_,rfl,?_⟩⟩;have s2:=s1.trans (ag Ck (.tup ((["never","pair","first","second","name"]:List Str).map V.str)));refine aZ (λc=>?_) (λc=>?_);·refine⟨_,rfl,_,rfl,_,rfl,x,rfl,big (by omega),(by simp),λy hy=>⟨_,_,rfl,rfl,big (by show y.length+1<=1000;omega),q _ _ (by rw[WX];show y.length+1<=101;omega) s2⟩⟩
  ·exact⟨_,rfl,q x _ (by omega) s2⟩
noncomputable def gU:Str:="abcdefghijklmnopqrstuvwxyz"
noncomputable def zA(j:Int):Nat:=(gU.cps.toList[(j%26).toNat]?).getD 97
theorem Pw:gU.cps.toList.length=26:=by decide+kernel
theorem Vp(j:Int):zK gU.cps.toList (j%26)=some (zA j)/\zA j∈gU.cps.toList:=by
 have h0:=Int.emod_nonneg j (show(26:Int)≠0 by decide);have h1:=Int.emod_lt_of_pos j (show(0:Int)<26 by decide);have hl:(j%26).toNat<gU.cps.toList.length:=by rw[Pw];omega
 have e:gU.cps.toList[(j%26).toNat]?=some (zA j):=by unfold zA;rw[List.getElem?_eq_getElem hl];rfl
 refine⟨?_,List.mem_of_getElem? e⟩;have ej:j%26=(((j%26).toNat:Nat):Int):=by omega
 rw[ej];exact aF e
theorem xt:∀(cs:List Nat)(A:Array Nat),(cs.map λc=>(⟨#[c]⟩:Str)).foldl (λacc p=>acc++(Str.ofString "").cps++p.cps) A=A++cs.toArray
 |[],A=>by simp
 |c::cs,A=>by
  rw[List.map_cons,List.foldl_cons,xt cs];have e:(Str.ofString "").cps=#[]:=by decide+kernel
  rw[e];simp
theorem zd(cs:List Nat):(Txt.join (Str.ofString "") (cs.map λc=>(⟨#[c]⟩:Str))).cps.toList=cs:=by cases cs with|nil=>decide+kernel|cons c cs=>show((((c::cs).map λc=>(⟨#[c]⟩:Str)).drop 1).foldl (λacc p=>acc++(Str.ofString "").cps++p.cps) (((c::cs).map λc=>(⟨#[c]⟩:Str)).headD Str.empty).cps).toList=c::cs;rw[List.map_cons,List.drop_succ_cons,List.drop_zero,xt];simp
theorem Nt(cs:List Nat):((cs.map λc=>(⟨#[c]⟩:Str)).map (·.length)).sum=cs.length:=by induction cs with|nil=>rfl|cons c cs ih=>rw[List.map_cons,List.map_cons,List.sum_cons,ih,List.length_cons];show 1+cs.length=_;omega
noncomputable def Ca:Sp:=λvs H Q _=>∃c:Int,vs=[.int c]/\0<=c/\∀(y:Str)(H':Hp),y.length<=101->aA H H'->Q (.str y) H'
theorem hZ:aK ["_law_cell","_law_letters"] ["_law_cell"] (ae de):=⟨rfl,rfl,rfl,by decide+kernel,rfl,by decide+kernel,by decide+kernel⟩
theorem wB(D:Df K mg "_law_word_by" de ["_law_cell"])(M:Mg mg t)(BZ:bI P w K mg b_ "_law_named" (1) ["_law_word_here"] D3):bI P w K mg b_ "_law_word_by" (2) ["_law_cell"] Ca:=by
 refine D.ok hZ (λvs H Q E h=>?_) (λbase f cM A outer s H vs Q E hr h=>?_);·obtain⟨c,rfl,_⟩:=h;rfl
 obtain⟨c,rfl,c0,q⟩:=h;refine⟨_,(ah (aD (i:=1) hZ.nd rfl (by first|exact Or.inl rfl|exact Or.inr rfl) ar) (aq (aB (aO BZ (hr.mono (by omega)) rfl aU (aa (BK PySem.F.plainAttrs_str PySem.F.slot_str_join PySem.F.type_str_join Pq ar (aa (uD (N':=["_law_k","_law_letters","_law_cell"]) (own:=1) (fr:=[1,0]) rfl (vc (N:=["_law_cell","_law_letters"]) (sc:=ae de) rfl rfl rfl (by decide+kernel)) (fZ rfl M.lu (aa (bh cP aj (bh lT (pv 0) aj)) af)) (jJ (by decide)) (λ_ _ _=>(bA (i:=0) (show List.Nodup (["_law_k","_law_letters","_law_cell"]:List Str)by decide+kernel) rfl (Or.inl rfl))) (λ_ _ _=>tG) (λ_ _ _=>(aW SI (pv 1) (bh lT (bh cP (bh ym (pv 2) aj) (bh z_ aj (pv 0))) aj) (λ_ _=>rfl)))) af)) af))))),?_⟩;try dsimp only[jb,c_]
 refine wO ?_;intro _ _;have y0:=Int.emod_nonneg c (b:=12) (by decide);have y1:=Int.emod_lt_of_pos c (b:=12) (by decide);obtain⟨m,em⟩:∃m:Nat,1+c%12=(m:Int):=⟨(1+c%12).toNat,by omega⟩;refine⟨rfl,_,rfl,_,_,rfl,rfl,(by show(0:Int)<12;decide),_,_,rfl,rfl,_,rfl,(by omega),(by omega),λp3 Vv=>?_⟩;rw[em,Int.toNat_natCast];refine xT m (λk=>V.str ⟨#[zA (c/12+7*(k:Nat))]⟩) Vv (big (by omega)) (λk H3 hk s3=>⟨hk,?_⟩) λH3 s3 h3=>⟨Nat.le_refl _,?_⟩
 ·rintro x' H4⟨rfl,rfl⟩R hR;have e0:(0:Int)+(k:Int)=((k:Nat):Int):=by omega
  rw[e0];refine⟨_,rfl,_,rfl,_,_,rfl,rfl,⟨by decide,by decide⟩,_,rfl,_,_,rfl,rfl, .inl ⟨by decide,by decide⟩,_,_,rfl,rfl,_,_,rfl,rfl,(by show(0:Int)<26;decide),gU,_,_,rfl,rfl,(by decide),(Vp _).1,hR _ (aA.refl _)⟩
 have e3:(List.range m).map (λk:Nat=>V.str ⟨#[zA (c/12+7*(k:Nat))]⟩)=((((List.range m).map λk:Nat=>zA (c/12+7*(k:Nat))).map λc=>(⟨#[c]⟩:Str))).map V.str:=by rw[List.map_map,List.map_map];rfl
 rw[e3]at h3;have Ob:((List.range m).map λk:Nat=>zA (c/12+7*(k:Nat))).length=m:=by rw[List.length_map,List.length_range]
 generalize((List.range m).map λk:Nat=>zA (c/12+7*(k:Nat)))=cs at h3 Ob e3;refine⟨_,p3,_,rfl,rfl,bQ.of h3,?_,?_⟩;·rw[Nt,List.length_map];show cs.length+cs.length*0<=_;omega
 have hW:=zd cs;have hl:(Txt.join (Str.ofString "") (cs.map λc=>(⟨#[c]⟩:Str))).length=m:=by have z:=congrArg List.length hW;rw[Array.length_toList]at z;rw[<-Ob];exact z
 exact⟨_,rfl,by rw[hl];omega,λy H' hy s'=>q y H' hy (s3.trans s')⟩
structure Bt(H:Hp)(B:Str->D)(b:Addr)(aC:List (Key×V))(one made:D)(r:Str)(v u:V)(wd:Str)(m:Nat):Prop where
 r1:Rep H one v
 r2:Rep H made u
 b:H b=some (.dK aC)
 bk:Jq H aC B
 c:Cs (iR aC) B m one made r []
 hm:m<=50
 rl:r.length<=10
 nm:r="name"->one= .tup [.str "name", .str wd]/\made=B wd/\J4 (B wd)/\depth (B wd)<=9/\iR aC wd=true
 hd:CC one="app"->r≠"name"
noncomputable def Hi(K:PySem.W.Frag):Sp:=λvs H Q _=>∃(a p:Addr)(ns:List Int)(i:Int)(wd:Str),vs=[.ref a, .ref p, .str wd]/\Tp K a p ns H i/\i<2^50/\wd.length<=101/\∀(q b:Addr)(B:Str->D)(aC:List (Key×V))(one made:D)(r:Str)(v u:V)(m:Nat)(H':Hp)(i':Int),H' q=some (.tup [v,u, .str r, .ref b])->Bt H' B b aC one made r v u wd m->cJ p H H'->H' p=some (.lst [.int i'])->i<=i'->i'<=i+4->Q (.ref q) H'
theorem a_:aK ["_law_script","_law_tape","_law_word_here","_law_way","_law_many","_law_less","_law_book","_law_step","_law_base","_law_below","_law_one","_law_deep","_law_here","_law_number","_law_part"] ["_law_script","_law_tape","_law_word_here"] (ae fD):=⟨rfl,rfl,rfl,by decide+kernel,rfl,by decide+kernel,by decide+kernel⟩
theorem Bp(D:Df K mg "_law_built" fD ["_law_script","_law_tape","_law_word_here"])(M:Mg mg t)(cH:bI P w K mg b_ "_law_draw" (1) ["_law_script","_law_tape","_law_many"] (CZ K))(cW:bI P w K mg b_ "_law_sized" (10) ["_law_many"] (AQ 9))(bL:bI P w K mg b_ "_law_nexts" (1) ["_law_many","_law_thing"] zj):bI P w K mg b_ "_law_built" (11) ["_law_script","_law_tape","_law_word_here"] (Hi K):=by
 refine D.ok a_ (λvs H Q E h=>?_) (λbase f cM A outer s H vs Q E hr h=>?_);·obtain⟨a,p,ns,i,wd,rfl,_⟩:=h;rfl
 obtain⟨a,p,ns,i,wd,rfl,T,hi,hwd,q⟩:=h;have hu:=N5 hr;have i0:=T.i0;refine⟨_,(ah (aD (i:=3) a_.nd rfl (by first|exact Or.inl rfl|exact Or.inr rfl) (aO cH (hr.mono (by omega)) rfl aU (aa (pv 0) (aa (pv 1) (aa aj af))))) (ah (aD (i:=4) a_.nd rfl (by first|exact Or.inl rfl|exact Or.inr rfl) (bh cP aj (aO cH (hr.mono (by omega)) rfl aU (aa (pv 0) (aa (pv 1) (aa aj af)))))) (ah (aD (i:=5) a_.nd rfl (by first|exact Or.inl rfl|exact Or.inr rfl) (aO cH (hr.mono (by omega)) rfl aU (aa (pv 0) (aa (pv 1) (aa aj af))))) (ah (aD (i:=6) a_.nd rfl (by first|exact Or.inl rfl|exact Or.inr rfl) Mq) (ah (bB (aG cj (pv 3) aj (aM _)) (ah (aD (i:=7) a_.nd rfl (by first|exact Or.inl rfl|exact Or.inr rfl) (aO cW (hr.mono (by omega)) rfl aU (aa (pv 4) af))) (ah (aD (i:=8) a_.nd rfl (by first|exact Or.inl rfl|exact Or.inr rfl) (aO bL (hr.mono (by omega)) rfl aU (aa (pv 5) (aa (ay (aa ar af)) af)))) (ah (aD (i:=9) a_.nd rfl (by first|exact Or.inl rfl|exact Or.inr rfl) (ay (aa ar (aa (ay (aa ar af)) (aa (pv 8) (aa (pv 7) (aa (ay (aa ar af)) af))))))) (ah (aD (i:=10) a_.nd rfl (by first|exact Or.inl rfl|exact Or.inr rfl) (ay (aa ar (aa (ay (aa ar af)) (aa (pv 8) (aa (pv 7) (aa (ay (aa ar (aa (ay (aa ar af)) af))) af))))))) (aq (aB (ay (aa (pv 10) (aa (ay (aa ar (aa (ay (aa ar (aa (pv 7) (aa (ay (aa ar af)) af)))) (aa (pv 9) af)))) (aa ar (aa (pv 6) af))))))))))) aN) (ah (bB (aG cj (pv 3) aj (aM _)) (ah (aD (i:=11) a_.nd rfl (by first|exact Or.inl rfl|exact Or.inr rfl) (bh cP aj (aO cH (hr.mono (by omega)) rfl aU (aa (pv 0) (aa (pv 1) (aa aj af)))))) (ah (aD (i:=12) a_.nd rfl (by first|exact Or.inl rfl|exact Or.inr rfl) (aO bL (hr.mono (by omega)) rfl aU (aa (bh cP (bh fL (pv 4) aj) aj) (aa (ay (aa ar af)) af)))) (ah (aD (i:=10) a_.nd rfl (by first|exact Or.inl rfl|exact Or.inr rfl) (ay (aa ar (aa (ay (aa ar (aa (ay (aa ar af)) (aa (aO bL (hr.mono (by omega)) rfl aU (aa (pv 11) (aa (ay (aa ar (aa aj af))) af))) af)))) (aa (pv 12) af))))) (aq (aB (ay (aa (pv 10) (aa (aO bL (hr.mono (by omega)) rfl aU (aa (pv 11) (aa (pv 12) af))) (aa ar (aa (pv 6) af)))))))))) aN) (ah (bB (aG cj (pv 3) aj (aM _)) (ah (aD (i:=13) a_.nd rfl (by first|exact Or.inl rfl|exact Or.inr rfl) (bh cP aj (aO cH (hr.mono (by omega)) rfl aU (aa (pv 0) (aa (pv 1) (aa aj af)))))) (ah (aD (i:=10) a_.nd rfl (by first|exact Or.inl rfl|exact Or.inr rfl) (ay (aa ar (aa (ay (aa ar (aa (ay (aa ar af)) (aa (ay (aa ar (aa (ay (aa ar af)) (aa (aO bL (hr.mono (by omega)) rfl aU (aa (pv 5) (aa (ay (aa ar (aa aj af))) af))) af)))) af)))) (aa (ay (aa ar (aa (pv 13) af))) af))))) (aq (aB (ay (aa (pv 10) (aa (ay (aa ar (aa (ay (aa ar af)) (aa (aO bL (hr.mono (by omega)) rfl aU (aa (pv 5) (aa (ay (aa ar (aa (bh cP (pv 13) aj) af))) af))) af)))) (aa ar (aa (pv 6) af))))))))) aN) (ah (aD (i:=14) a_.nd rfl (by first|exact Or.inl rfl|exact Or.inr rfl) (aO cW (hr.mono (by omega)) rfl aU (aa (pv 4) af))) (ah (bB (aG cj (pv 3) aj (aM _)) (ah (P7 hu (pv 6) (pv 2) (ay (aa (ay (aa ar af)) (aa (pv 14) af))) rfl) (aq (aB (ay (aa (ay (aa ar (aa (pv 2) af))) (aa (pv 14) (aa ar (aa (pv 6) af)))))))) aN) (aq (aB (ay (aa (ay (aa ar (aa (ay (aa ar (aa (ay (aa ar af)) (aa (pv 14) (aa (ay (aa ar af)) af))))) af))) (aa (pv 14) (aa ar (aa (pv 6) af)))))))))))))))),?_⟩;try dsimp only[jb,c_]
 refine ZR ?_;intro _ _ _ _ _ _ _ _ _ _;refine⟨_,rfl,_,rfl,a,p,ns,i,5,rfl,T,(by omega),(by decide),λway H1 w0 w1 x1 h1=>?_⟩;have T1:=T.next x1 h1 (by omega);refine⟨_,rfl,_,rfl,a,p,ns,i+1,11,rfl,T1,(by omega),(by decide),λmz H2 m0 m1 x2 h2=>⟨_,_,rfl,rfl,?_⟩⟩;have T2:=T1.next x2 h2 (by omega);refine⟨_,rfl,_,rfl,a,p,ns,i+1+1,3,rfl,T2,(by omega),(by decide),λlz H3 l0 l1 x3 h3=>?_⟩;have T3:=T2.next x3 h3 (by omega);have x13:cJ p H H3:=x1.trans (x2.trans x3);obtain⟨ls,rfl⟩:∃ls:Nat,lz=(ls:Int):=⟨lz.toNat,by omega⟩;refineλb hb=>?_;have tb:=ag hb (.dK []);have T4:=T3.mono tb;have G6:(upd H3 b (.dK [])) b=some (.dK []):=av;generalize upd H3 b (.dK [])=H4 at tb T4 G6⊢;have x4:cJ p H H4:=x13.trans tb.x;have h4:=T4.lF;have fin:∀(one made:KM.D)(r:Str)(v u:V)(m:Nat)(H5:Hp)(j:Int)(q1:Addr),cJ p H4 H5->H5 p=some (.lst [.int j])->H5 b=some (.dK [])->i<=j->j<=i+4->Rep H5 one v->Rep H5 made u->Cs (iR []) (λ_=> .ba) m one made r []->m<=50->r.length<=10->r≠"name"->H5 q1=none->Q (.ref q1) (upd H5 q1 (.tup [v,u, .str r, .ref b])):=λone made r v u m H5 j q1 sx Qs W6 j0 j1 r1 r2 cs hm hr0 hn mM=>by have t5:=ag mM (.tup [v,u, .str r, .ref b]);exact q q1 b (λ_=> .ba) [] one made r v u m _ j av ⟨r1.mono t5,r2.mono t5,t5 _ _ W6,(λy hy=>by cases hy),cs,hm,hr0,λz=>absurd z hn,λ_=>hn⟩ ((x4.trans sx).trans t5.x) (t5 _ _ Qs) j0 j1
 refine⟨_,rfl,rfl,_,rfl,aZ (λ_=>?_) (λ_=>?_)⟩
 ·refine⟨_,rfl,290+mz,rfl,(by omega),(by omega),λdS vS H5 s5 rS wS aS=>?_⟩;refine⟨_,rfl,(by show 1<=sizeLine;decide),λp1 lC=>⟨ls,bT,_,rfl,(by omega),aE lC (rs dU r0),λvB H6 s6 rB=>?_⟩⟩;have s6:=(ag lC _).trans s6;have rS:=rS.mono s6;refine⟨(by show 1<=sizeLine;decide),λn1 IA=>⟨_,rfl,_,rfl,(by show 1<=sizeLine;decide),λz1 Og=>⟨(by show 5<=sizeLine;decide),λa0 Xa=>?_⟩⟩⟩;have u0:=ag IA (.tup [V.str "nat"]);have u1:=ag Og (.tup [V.str "zero"]);have u2:=ag Xa (.tup [V.str "rec", .ref n1,vB,vS, .ref z1]);have rn:=(aE IA (rs (dU (x:="nat")) r0)).mono u1;have r7:=aE Xa (rs (dU (x:="rec")) (rs rn (rs (rB.mono (u0.trans u1)) (rs (rS.mono (u0.trans u1)) (rs (aE Og (rs (dU (x:="zero")) r0)) r0)))));have s7:=u0.trans (u1.trans u2);generalize upd (upd (upd H6 n1 (.tup [V.str "nat"])) z1 (.tup [V.str "zero"])) a0 (.tup [V.str "rec", .ref n1,vB,vS, .ref z1])=H7 at r7 s7⊢;have rS:=rS.mono s7;have rB:=rB.mono s7;refine⟨(by show 1<=sizeLine;decide),λn2 T_=>⟨_,rfl,_,rfl,(by show 1<=sizeLine;decide),λz2 hz2=>⟨(by show 2<=sizeLine;decide),λx2 hx2=>⟨(by show 5<=sizeLine;decide),λa3 WA=>?_⟩⟩⟩⟩;have u0:=ag T_ (.tup [V.str "nat"]);have u1:=ag hz2 (.tup [V.str "zero"]);have u2:=ag hx2 (.tup [V.str "next", .ref z2]);have u3:=ag WA (.tup [V.str "rec", .ref n2,vB,vS, .ref x2]);have u02:=u0.trans (u1.trans u2);have rn:=(aE T_ (rs (dU (x:="nat")) r0)).mono (u1.trans u2);have r8:=aE WA (rs (dU (x:="rec")) (rs rn (rs (rB.mono u02) (rs (rS.mono u02) (rs (aE hx2 (rs (dU (x:="next")) (rs (aE hz2 (rs (dU (x:="zero")) r0)) r0))) r0)))));have s8:=u02.trans u3;generalize upd (upd (upd (upd H7 n2 (.tup [V.str "nat"])) z2 (.tup [V.str "zero"])) x2 (.tup [V.str "next", .ref z2])) a3 (.tup [V.str "rec", .ref n2,vB,vS, .ref x2])=H8 at r8 s8⊢;have rS:=rS.mono s8;have r7:=r7.mono s8;refine⟨_,rfl,_,rfl,(by show 1<=sizeLine;decide),λz1 Og=>⟨(by show 3<=sizeLine;decide),λa1 jG=>⟨_,rfl,(by show 3<=sizeLine;decide),λa2 F0=>⟨_,rfl,(by show 4<=sizeLine;decide),λq1 mM=>?_⟩⟩⟩⟩;have u1:=ag Og (.tup [V.str "zero"]);have u2:=ag jG (.tup [V.str "app",vS, .ref z1]);have u3:=ag F0 (.tup [V.str "app",V.ref a1,V.ref a0]);have r9:=aE F0 (rs (dU (x:="app")) (rs (aE jG (rs (dU (x:="app")) (rs (rS.mono u1) (rs (aE Og (rs (dU (x:="zero")) r0)) r0)))) (rs (r7.mono (u1.trans u2)) r0)));have s9:=u1.trans (u2.trans u3);generalize upd (upd (upd H8 z1 (.tup [V.str "zero"])) a1 (.tup [V.str "app",vS, .ref z1])) a2 (.tup [V.str "app",V.ref a1,V.ref a0])=H9 at r9 s9 mM⊢;have sA:=s5.trans (s6.trans (s7.trans (s8.trans s9)));obtain⟨b1,b2⟩:=e_ (d:=bT) ls;have d1:depth bT=1:=by simp[bT,depth,az]
  exact fin _ _ "next" (.ref a3) (.ref a2) 13 H9 _ q1 sA.x (sA _ _ h4) (sA _ _ G6) (by omega) (by omega) (r8.mono s9) r9 (O_ wS (b1 eQ) aS (by omega)) (by decide) (by decide) (by decide+kernel) mM
 refine⟨_,rfl,rfl,_,rfl,aZ (λ_=>?_) (λ_=>?_)⟩
 ·refine⟨_,rfl,_,rfl,a,p,ns,i+1+1+1,8,rfl,T4,(by omega),(by decide),λdz H5 z0 z1 x5 h5=>⟨_,_,rfl,rfl,?_⟩⟩;obtain⟨k,ek⟩:∃k:Nat,15+dz=(k:Int):=⟨(15+dz).toNat,by omega⟩;show vZ 11 (V.int (15+dz)) _ _ _;rw[ek];obtain⟨j,ej⟩:∃j:Nat,290+mz-290+12=(j:Int):=⟨(mz+12).toNat,by omega⟩;have nb:b≠p:=λz=>by rw[z,h4]at G6;cases G6
  have W6:=x5 _ _ nb G6;refine⟨_,rfl,_,_,rfl,rfl,_,_,rfl,rfl,(by show 1<=sizeLine;decide),λy1 hy1=>⟨j,bT, .ref y1,congrArg (λz=>[V.int z,V.ref y1]) ej,(by omega),aE hy1 (rs dU r0),λvh H6 s6 rh=>?_⟩⟩;have s6:=(ag hy1 _).trans s6;refine⟨(by show 1<=sizeLine;decide),λn1 IA=>⟨_,rfl,(by show 2<=sizeLine;decide),λy2 P_=>⟨k,cU 0, .ref y2,rfl,(by omega),aE P_ (rs dU (rs ri r0)),λvn H7 s7 rn7=>?_⟩⟩⟩;have un:=ag IA (.tup [V.str "nat"]);have rn:=(aE IA (rs (dU (x:="nat")) r0)).mono ((ag P_ _).trans s7);have s7:=un.trans ((ag P_ _).trans s7);refine⟨(by show 3<=sizeLine;decide),λa1 jG=>⟨_,rfl,(by show 3<=sizeLine;decide),λa2 F0=>?_⟩⟩;have u1:=ag jG (.tup [V.str "fun", .ref n1,vn]);have u2:=ag F0 (.tup [V.str "app", .ref a1,vh]);have rh:=rh.mono s7;have r8:=aE F0 (rs (dU (x:="app")) (rs (aE jG (rs (dU (x:="fun")) (rs rn (rs rn7 r0)))) (rs (rh.mono u1) r0)));have s8:=u1.trans u2;generalize upd (upd H7 a1 (.tup [V.str "fun", .ref n1,vn])) a2 (.tup [V.str "app", .ref a1,vh])=H8 at r8 s8⊢;refine⟨_,rfl,_,rfl,_,rfl,k,dJ j bT,vh,rfl,(by omega),rh.mono s8,λvm H9 s9 rm=>⟨_,rfl,(by show 4<=sizeLine;decide),λq1 mM=>?_⟩⟩;have sA:=s6.trans (s7.trans (s8.trans s9));exact fin _ _ "fun" (.ref a2) vm 50 H9 _ q1 (x5.trans sA.x) (sA _ _ h5) (sA _ _ W6) (by omega) (by omega) (r8.mono s9) rm (Ut k j (by omega) (by omega)) (by decide) (by decide) (by decide+kernel) mM
 refine⟨_,rfl,rfl,_,rfl,aZ (λ_=>?_) (λ_=>?_)⟩
 ·refine⟨_,rfl,_,rfl,a,p,ns,i+1+1+1,5,rfl,T4,(by omega),(by decide),λdz H5 z0 z1 x5 h5=>⟨_,_,rfl,rfl,?_⟩⟩;have nb:b≠p:=λz=>by rw[z,h4]at G6;cases G6
  have W6:=x5 _ _ nb G6;refine⟨(by show 1<=sizeLine;decide),λn1 IA=>⟨(by show 1<=sizeLine;decide),λn2 T_=>⟨_,rfl,(by show 2<=sizeLine;decide),λy2 P_=>⟨ls,cU 1, .ref y2,rfl,(by omega),aE P_ (rs dU (rs ri r0)),λvn H7 s7 rn7=>?_⟩⟩⟩⟩;have u1:=ag IA (.tup [V.str "nat"]);have u2:=ag T_ (.tup [V.str "nat"]);have s7:=(ag P_ _).trans s7;have rn1:=(aE IA (rs (dU (x:="nat")) r0)).mono (u2.trans s7);have rn2:=(aE T_ (rs (dU (x:="nat")) r0)).mono s7;have s7:=u1.trans (u2.trans s7);refine⟨(by show 3<=sizeLine;decide),λa1 jG=>⟨(by show 3<=sizeLine;decide),λa2 F0=>⟨_,rfl,(by show 2<=sizeLine;decide),λy3 hy3=>⟨(by show 3<=sizeLine;decide),λa3 WA=>?_⟩⟩⟩⟩;have w1':=ag jG (.tup [V.str "fun", .ref n2,vn]);have w2':=ag F0 (.tup [V.str "fun", .ref n1, .ref a1]);have w3':=ag hy3 (.tup [V.str "var", .int (95+dz)]);have w4':=ag WA (.tup [V.str "app", .ref a2, .ref y3]);have r8:=aE WA (rs (dU (x:="app")) (rs ((aE F0 (rs (dU (x:="fun")) (rs (rn1.mono w1') (rs (aE jG (rs (dU (x:="fun")) (rs rn2 (rs rn7 r0)))) r0)))).mono w3') (rs (aE hy3 (rs (dU (x:="var")) (rs (ri (i:=95+dz)) r0))) r0)));have s8:=w1'.trans (w2'.trans (w3'.trans w4'));generalize upd (upd (upd (upd H7 a1 (.tup [V.str "fun", .ref n2,vn])) a2 (.tup [V.str "fun", .ref n1, .ref a1])) y3 (.tup [V.str "var", .int (95+dz)])) a3 (.tup [V.str "app", .ref a2, .ref y3])=H8 at r8 s8⊢;refine⟨_,rfl,(by show 1<=sizeLine;decide),λn3 hn3=>⟨_,rfl,_,rfl,_,_,rfl,rfl,(by show 2<=sizeLine;decide),λy4 hy4=>⟨ls,cU (95+dz+1), .ref y4,rfl,(by omega),aE hy4 (rs dU (rs ri r0)),λvm H9 s9 rm=>⟨(by show 3<=sizeLine;decide),λa4 ha4=>⟨_,rfl,(by show 4<=sizeLine;decide),λq1 mM=>?_⟩⟩⟩⟩⟩;have s9:=(ag hy4 _).trans s9;have rn3:=(aE hn3 (rs (dU (x:="nat")) r0)).mono s9;have s9:=(ag hn3 _).trans s9;have v4:=ag ha4 (.tup [V.str "fun", .ref n3,vm]);have r9:=aE ha4 (rs (dU (x:="fun")) (rs rn3 (rs rm r0)));generalize upd H9 a4 (.tup [V.str "fun", .ref n3,vm])=Mr at r9 v4 mM⊢;have sA:=s7.trans (s8.trans (s9.trans v4));exact fin _ _ "fun" (.ref a3) (.ref a4) 50 Mr _ q1 (x5.trans sA.x) (sA _ _ h5) (sA _ _ W6) (by omega) (by omega) (r8.mono (s9.trans v4)) r9 (Sw ls (95+dz) (by omega) (by omega)) (by decide) (by decide) (by decide+kernel) mM
 refine⟨_,rfl,290+mz,rfl,(by omega),(by omega),λdS vS H5 s5 rS wS aS=>?_⟩;refine⟨_,rfl,rfl,_,rfl,aZ (λ_=>?_) (λ_=>?_)⟩
 ·refine⟨(by show 1<=sizeLine;decide),λn1 IA=>⟨_,rfl,(by show 2<=sizeLine;decide),λy1 hy1=>?_⟩⟩;have u1:=ag IA (.tup [V.str "nat"]);have u2:=ag hy1 (.tup [V.ref n1,vS]);have PR:(upd (upd H5 n1 (.tup [V.str "nat"])) y1 (.tup [V.ref n1,vS])) y1=some (.tup [V.ref n1,vS]):=av;have s6:=s5.trans (u1.trans u2);have rS:=rS.mono (u1.trans u2);generalize upd (upd H5 n1 (.tup [V.str "nat"])) y1 (.tup [V.ref n1,vS])=H6 at PR s6 rS⊢;have hb6:=s6 _ _ G6;have h6:=s6 _ _ h4;refine⟨_,rfl,_,rfl,b,_,rfl,M5.k (k:=Sum.inr wd) hb6 (by show 0<sizeLine;decide),?_⟩;have xu:cJ b H6 (upd H6 b (.dK (putK [] (Sum.inr wd) (.ref y1)))):=cJ.upd _;have nt:∀vs,H6 b≠some (.tup vs):=λvs z=>by rw[hb6]at z;cases z
  have rS:=rS.gW xu nt;have ny:y1≠b:=λz=>by rw[z,hb6]at PR;cases PR
  have np:p≠b:=λz=>by rw[z,hb6]at h6;cases h6
  have hy7:=xu _ _ ny PR;have h7:=xu _ _ np h6;have hb7:(upd H6 b (.dK (putK [] (Sum.inr wd) (.ref y1)))) b=some (.dK (putK [] (Sum.inr wd:Key) (.ref y1))):=av;have x7:cJ p H (upd H6 b (.dK (putK [] (Sum.inr wd) (.ref y1)))):=λc o hc hH=>by
   have nc:c≠b:=λz=>by rw[z]at hH hc;exact absurd (x13 _ _ hc hH) (by rw[hb];simp)
   exact xu c o nc (s6 _ _ (x4 c o hc hH))
  generalize upd H6 b (.dK (putK [] (Sum.inr wd) (.ref y1)))=H7 at rS hy7 h7 hb7 x7⊢;refine⟨_,rfl,(by show 2<=sizeLine;decide),λa1 jG=>⟨_,rfl,_,rfl,(by show 4<=sizeLine;decide),λq1 mM=>?_⟩⟩;have v1:=ag jG (.tup [V.str "name", .str wd]);have v2:=ag mM (.tup [V.ref a1,vS, .str "name", .ref b]);have VZ:=v1.trans v2;have r8:=(aE jG (rs (dU (x:="name")) (rs (dU (x:=wd) (by omega)) r0))).mono v2;have Nh:∀y:Str,dG (putK [] (Sum.inr wd:Key) (V.ref y1)) (Sum.inr y:Key)=if(Sum.inr y:Key)=Sum.inr wd then some (V.ref y1)else none:=λy=>by rw[Ls];rfl
  have Wd:iR (putK [] (Sum.inr wd:Key) (V.ref y1)) wd=true:=by unfold iR;rw[Nh,if_pos rfl];rfl
  refine q q1 b (λ_=>dS) (putK [] (Sum.inr wd) (.ref y1)) _ dS "name" (.ref a1) vS 13 _ _ av ⟨r8,rS.mono VZ,VZ _ _ hb7,λy hy=>?_,PF (B:=λ_=>dS) wS aS Wd,by decide,by decide,λ_=>⟨rfl,rfl,wS,aS,Wd⟩,λz=>absurd z (by show¬Str.ofString "name"="app";decide+kernel)⟩ (x7.trans VZ.x) (VZ _ _ h7) (by omega) (by omega);refine⟨y1,_,_,?_,VZ _ _ hy7,rS.mono VZ⟩;unfold iR at hy;rw[Nh]at hy⊢;split at hy;·rename_i hy';rw[if_pos hy']
  ·cases hy
 ·refine⟨(by show 1<=sizeLine;decide),λn1 IA=>⟨_,rfl,(by show 1<=sizeLine;decide),λz1 Og=>⟨(by show 4<=sizeLine;decide),λa1 jG=>⟨(by show 2<=sizeLine;decide),λa2 F0=>⟨_,rfl,_,rfl,(by show 4<=sizeLine;decide),λq1 mM=>?_⟩⟩⟩⟩⟩;have u0:=ag IA (.tup [V.str "nat"]);have u1:=ag Og (.tup [V.str "zero"]);have u2:=ag jG (.tup [V.str "pair", .ref n1,vS, .ref z1]);have u3:=ag F0 (.tup [V.str "first", .ref a1]);have rn:=(aE IA (rs (dU (x:="nat")) r0)).mono u1;have r9:=aE F0 (rs (dU (x:="first")) (rs (aE jG (rs (dU (x:="pair")) (rs rn (rs (rS.mono (u0.trans u1)) (rs (aE Og (rs (dU (x:="zero")) r0)) r0))))) r0));have s9:=u0.trans (u1.trans (u2.trans u3));generalize upd (upd (upd (upd H5 n1 (.tup [V.str "nat"])) z1 (.tup [V.str "zero"])) a1 (.tup [V.str "pair", .ref n1,vS, .ref z1])) a2 (.tup [V.str "first", .ref a1])=H9 at r9 s9 mM⊢;have sA:=s5.trans s9;exact fin _ _ "first" (.ref a2) vS 13 H9 _ q1 sA.x (sA _ _ h4) (sA _ _ G6) (by omega) (by omega) r9 (rS.mono s9) (KS wS aS) (by decide) (by decide) (by decide+kernel) mM
end K26
end
section
namespace L3
open PySem PySem.Spec PyProof.Rows L2
noncomputable abbrev abY(h:Heap)(z TI TO:Addr)(f0 f1:Value):Prop:=h.get? z=some {cls:= .type "zip",dict:=none,data:= .fields #[f0,f1, .bool false, .ref TI, .ref TO],slots:=#[]}
noncomputable def ZG(h:Heap)(z TI TO:Addr):Prop:=∃f0 f1,abY h z TI TO f0 f1/\(f0= .none\/∃a t,f0= .int a t)
section
variable{prog:Program}{w:World}{A:Around}{E:Value->Shared->Prop}{s:Shared}
variable{z TI TO i1 i2:Addr}{f1 f2:List Addr}{n1 n2:Nat}{P1 P2:Nat->Value->Prop}{S1 S2:Nat->Heap->Prop}
end
structure acH(a b e z TI TO i1 i2:Addr)(i:Nat)(h:Heap):Prop where
 e:∃old,IsEnum h e z i old
 z:ZG h z TI TO
 TI:IsPair h TI (.ref i1) (.ref i2)
 TO:∃u v,IsPair h TO u v
 i1:h.IsListIter i1 a i
 i2:h.IsListIter i2 b i
end L3
namespace L3
theorem Vf{k:Nat}{A:PySem.Around}(r:L2.cI k A):A.units+84<PySem.cLine:=by have :=r.un;omega
end L3
end
section
set_option maxHeartbeats 4000000
namespace K26
open PySem L2 L3 KM PyProof.Rows
seal L2.PE L2.PS L2.eM L2.PT L2.PW L2.PA L2.PG L2.kW L2.PI L2.PC L2.PO L2.nj L2.PK L3.lr L3.PH L3.PB
variable{P:Program}{w:World}{K:PySem.W.Frag}{mg:Str->Option Value}{base:Heap}{t:jo}
noncomputable def G1(K:PySem.W.Frag)(T1 T2:Addr):Sp:=λvs H Q _=>∃(a:Addr)(ns:List Int),vs=[.ref a]/\bQ K H a (ns.map V.int)/\ns.length<=63/\IK H T1 T2/\∀H',Q (.bl true) H'
theorem KI{H:Hp}{a p:Addr}{ns:List Int}(hS:bQ K H a (ns.map V.int))(hl:ns.length<=63)(hp:H p=none):Tp K a p ns (upd H p (.lst [V.int 0])) 0:=by
 refine⟨?_,hl,av,Int.le_refl _⟩;rcases hS with(h|⟨o,h⟩)|h;·have n:a≠p:=aQ h hp;exact .inl ⟨n, .inl (by rw[aX n];exact h)⟩
 ·have n:a≠p:=aQ h hp;exact .inl ⟨n, .inr ⟨o,by rw[aX n];exact h⟩⟩
 ·exact .inr λH'=> .inr h
theorem IK.sx{H H':Hp}{p T1 T2:Addr}{xs:List V}(h:IK H T1 T2)(s:cJ p H H')(hp:H p=some (.lst xs)):IK H' T1 T2:=⟨s _ _ (λz=>by have e:H T1=_:=h.t1;rw[z,hp]at e;cases e) h.t1,s _ _ (λz=>by have e:H T2=_:=h.t2;rw[z,hp]at e;cases e) h.t2⟩
theorem dM{H:Hp}{p:Addr}{xs:List V}(h:H p=some (.lst xs)):∀vs,H p≠some (.tup vs):=λvs z=>by rw[h]at z;cases z
theorem Cs.weak{inb:Str->Bool}{B:Str->D}{m m':Nat}{one made:D}{r:Str}{pl:List Nat}(h:Cs inb B m one made r pl)(hm:m<=m'):Cs inb B m' one made r pl:=⟨h.fst,h.wf,h.Vw,Nat.le_trans h.dp hm,Nat.le_trans h.dm hm,Nat.le_trans h.ln hm,h.nm,h.ex⟩
theorem xA{H:Hp}:∀k:Nat,bu H ((List.replicate k 0).map λi=>D.int (i:Nat)) (List.replicate k [V.int 0]).flatten|0=>rfl|k+1=>⟨V.int 0,_,rfl,rfl,xA k⟩
mutual theorem Ik:∀{k:Bool}{d:D},bU aP k d=true->NP d=true|k, .tup (.str x::ps),h=>by obtain⟨s,e1,e2,e3,e4,e5,_⟩:=cx h;show(true&&Ml ps)=true;rw[Nr e3];rfl|k, .tup [],h=>by simp[bU]at h|k, .tup (.ba::_),h=>by simp[bU]at h|k, .tup (.bl _::_),h=>by simp[bU]at h|k, .tup (.int _::_),h=>by simp[bU]at h|k, .tup (.tup _::_),h=>by simp[bU]at h|k, .ba,h=>by simp[bU]at h|k, .bl _,h=>by simp[bU]at h|k, .int _,h=>by simp[bU]at h|k, .str _,h=>by simp[bU]at h theorem Nr:∀{cs:List Nat}{ps:List D},gX aP cs ps=true->Ml ps=true
 |[],[],_=>rfl
 |[],_::_,h=>by simp[gX]at h
 |_::_,[],h=>by simp[gX]at h
 |c::cs,p::ps,h=>by
  rw[aT,Bool.and_eq_true]at h;show(NP p&&Ml ps)=true;rw[Nr h.2,Bool.and_true];have h:=h.1;unfold fj at h;by_cases c1:c=107;·rw[if_pos c1]at h;exact Ik h
  ·rw[if_neg c1]at h;by_cases c2:c=116;·rw[if_pos c2]at h;exact Ik h
   ·rw[if_neg c2]at h;cases p<;>first|rfl|(simp[jc,aP]at h;done)end
mutual theorem xn{H H':Hp}(s:aA H H'):∀(x:DX)(v:V),uY H x v->uY H' x v| .d x,v,h=>Rep.mono s h| .tup xs,v,h=>let⟨a,vs,e,ha,r⟩:=h;⟨a,vs,e,s _ _ ha,jA s xs vs r⟩| .lst xs,v,h=>let⟨a,vs,e,ha,r⟩:=h;⟨a,vs,e,s _ _ ha,jA s xs vs r⟩theorem jA{H H':Hp}(s:aA H H'):∀(xs:List DX)(vs:List V),dD H xs vs->dD H' xs vs|[],_,h=>h|x::xs,_,h=>let⟨v,r,e,a,b⟩:=h;⟨v,r,e,xn s x v a,jA s xs r b⟩end
theorem GG:∀pl:List Nat,Ml (pl.map λi=>D.int (i:Nat))=true|[]=>rfl|i::pl=>GG pl
theorem HZ:∀pl:List Nat,az (pl.map λi=>D.int (i:Nat))=0|[]=>rfl|i::pl=>by show max 0 (az (pl.map λi=>D.int (i:Nat)))=0;rw[HZ pl];rfl
theorem WR{d:D}(h:NP d=true)(r:Az):yw [.d (.str "thing"), .tup [.d d, .lst [.d (JI r)]]]=true:=by
 have e:NP (JI r)=true:=by show(Ml (r.1.map λi=>D.int (i:Nat))&&(true&&true))=true;rw[GG];rfl
 simp only[yw,nbX,h,e];rfl
theorem XQ{d:D}(h:depth d<=60)(r:Az):hU [.d (.str "thing"), .tup [.d d, .lst [.d (JI r)]]]<=80:=by
 have e:depth (JI r)=2:=by have z:=HZ r.1;simp only[JI,V3,depth,az,z];rfl
 have e0:depth (.str "thing")=0:=by simp[depth]
 simp only[hU,Qu,e,e0];omega
theorem Be{H:Hp}:∀{ds:List D}{vs:List V},bu H ds vs->dD H (ds.map DX.d) vs|[],_,h=>h|d::ds,_,⟨v,r,e,h,t⟩=>⟨v,r,e,h,Be t⟩
theorem ft{H:Hp}{ds:List D}{v:V}(h:Rep H (.tup ds) v):uY H (.tup (ds.map DX.d)) v:=let⟨a,vs,e,ha,r⟩:=h;⟨a,vs,e,ha,Be r⟩
theorem NF{g:Bool}{d:D}{k:Bool}(wf:bU aP k d=true)(hd:depth d<=60){H:Hp}{x y:V}(r1:Rep H (Oo g d) x)(r2:Rep H (Oo g d) y):∃xs:List DX,uY H (.tup xs) x/\uY H (.tup xs) y/\yw xs=true/\hU xs<=80:=by
 cases g with
  |true=>exact⟨_,ft r1,ft r2,rfl,by show max 0 (max 0 0)<=80;decide⟩
  |false=>
   refine⟨_,ft (ds:=[.str "thing",d]) r1,ft (ds:=[.str "thing",d]) r2,?_,?_⟩;·show(true&&(NP d&&true))=true;rw[Ik wf];rfl
   ·show max 0 (max (depth d) 0)<=80;omega
structure Md(H:Hp)(T1 T2:Addr)(B:Str->D)(b:Addr)(aC:List (Key×V))(one made:D)(r:Str)(v u:V)(k:Nat)(pl:List Nat)(pw:V):Prop where
 r1:Rep H one v
 r2:Rep H made u
 b:H b=some (.dK aC)
 bk:Jq H aC B
 c:Cs (iR aC) B 50 one made r pl
 rl:r.length<=10
 pw:Rep H (V3 (List.replicate k 0++pl)) pw
 t:IK H T1 T2
 k3:k<=3
 cs:(pl=[]/\(CC one="app"->r≠"name"))\/(pl=[0]/\CC one="app"/\r="name")
theorem Md.mono{H H':Hp}{T1 T2:Addr}{B:Str->D}{b:Addr}{aC:List (Key×V)}{one made:D}{r:Str}{v u:V}{k:Nat}{pl:List Nat}{pw:V}(h:Md H T1 T2 B b aC one made r v u k pl pw)(s:aA H H'):Md H' T1 T2 B b aC one made r v u k pl pw:=⟨h.r1.mono s,h.r2.mono s,s _ _ h.b,h.bk.mono s,h.c,h.rl,h.pw.mono s,h.t.mono s,h.k3,h.cs⟩
theorem Jq.sx{H H':Hp}{p:Addr}{aC:List (Key×V)}{B:Str->D}{xs:List V}(h:Jq H aC B)(s:cJ p H H')(hp:H p=some (.lst xs)):Jq H' aC B:=λy hy=>let⟨q,kv,tv,a,b,c⟩:=h y hy;⟨q,kv,tv,a,s _ _ (λz=>dM hp _ (by rw[<-z];exact b)) b,c.gW s (dM hp)⟩
theorem cL:aK ["_law_script","_law_tape","_law_word_here","_law_one","_law_made","_law_rule","_law_book","_law_place","_law_side","_law_thing","_law_due","_law_way"] ["_law_script"] (ae HH):=⟨rfl,rfl,rfl,by decide+kernel,rfl,by decide+kernel,by decide+kernel⟩
theorem Wz{f:Addr}{fd:FuncData}{T1 T2:Addr}(F:Qn K "law" "law" HH f fd)(M:Mg mg t)(cH:bI P w K mg b_ "_law_draw" (1) ["_law_script","_law_tape","_law_many"] (CZ K))(w4:bI P w K mg b_ "_law_word_by" (2) ["_law_cell"] Ca)(BE:bI P w K mg b_ "_law_built" (11) ["_law_script","_law_tape","_law_word_here"] (Hi K))(cW:bI P w K mg b_ "_law_sized" (10) ["_law_many"] (AQ 9))(bL:bI P w K mg b_ "_law_nexts" (1) ["_law_many","_law_thing"] zj)(B4:bI P w K mg b_ "_law_great" (192) ["_law_thing"] (G3 60))(gM:bI P w K mg b_ "_law_told" (140) ["_law_way","_law_thing","_law_place","_law_rule","_law_fuel","_law_book"] (Kx T1 T2)):wZ P w K mg base b_ 193 f fd ["_law_script"] (G1 K T1 T2):=by
 refine F.ok cL (λvs H Q E h=>?_) (λcM A outer s H vs Q E hr h=>?_);·obtain⟨a,ns,rfl,_⟩:=h;rfl
 obtain⟨a,ns,rfl,hS,hlen,hT,q⟩:=h;have h84:=Vf hr;refine⟨_,(ah (aD (i:=1) cL.nd rfl (by first|exact Or.inl rfl|exact Or.inr rfl) (fK (aa aj af))) (ah (aD (i:=2) cL.nd rfl (by first|exact Or.inl rfl|exact Or.inr rfl) (aO w4 (hr.mono (by omega)) rfl aU (aa (aO cH (hr.mono (by omega)) rfl aU (aa (pv 0) (aa (pv 1) (aa (bh UE aj aj) af)))) af))) (ah (C3 (aO BE (hr.mono (by omega)) rfl aU (aa (pv 0) (aa (pv 1) (aa (pv 2) af)))) (ve (n:=4) rfl (cz (bA (i:=3) cL.nd rfl (by first|exact Or.inl rfl|exact Or.inr rfl)) (cz (bA (i:=4) cL.nd rfl (by first|exact Or.inl rfl|exact Or.inr rfl)) (cz (bA (i:=5) cL.nd rfl (by first|exact Or.inl rfl|exact Or.inr rfl)) (cz (bA (i:=6) cL.nd rfl (by first|exact Or.inl rfl|exact Or.inr rfl)) jQ)))))) (ah (aD (i:=7) cL.nd rfl (by first|exact Or.inl rfl|exact Or.inr rfl) (bh N3 (ay (aa aj af)) (aO cH (hr.mono (by omega)) rfl aU (aa (pv 0) (aa (pv 1) (aa aj af)))))) (kD (bB (L2.PW.pt (Lc (aG cj (pv 5) ar (aM _)) (E7 (aG mQ (aO cH (hr.mono (by omega)) rfl aU (aa (pv 0) (aa (pv 1) (aa aj af)))) aj (aM _))))) (ah (aD (i:=8) cL.nd rfl (by first|exact Or.inl rfl|exact Or.inr rfl) (aO cW (hr.mono (by omega)) rfl aU (aa aj af))) (ah (aD (i:=3) cL.nd rfl (by first|exact Or.inl rfl|exact Or.inr rfl) (ay (aa ar (aa (pv 3) (aa (pv 8) af))))) (ah (aD (i:=4) cL.nd rfl (by first|exact Or.inl rfl|exact Or.inr rfl) (ay (aa ar (aa (pv 4) (aa (pv 8) af))))) (aq (aD (i:=7) cL.nd rfl (by first|exact Or.inl rfl|exact Or.inr rfl) (bh pE (pv 7) (ay (aa aj af)))))))) aN) (ah (aD (i:=9) cL.nd rfl (by first|exact Or.inl rfl|exact Or.inr rfl) (aO bL (hr.mono (by omega)) rfl aU (aa (bg bo rfl M.gf eA (aa (pv 7) af)) (aa (pv 3) af)))) (ah (aD (i:=10) cL.nd rfl (by first|exact Or.inl rfl|exact Or.inr rfl) (ay (aa ar (aa (aO bL (hr.mono (by omega)) rfl aU (aa (bg bo rfl M.gf eA (aa (pv 7) af)) (aa (pv 4) af))) af)))) (kD (bB (L2.PW.pt (Lc (aG cj (aW aR (pv 3) aj (λ_ _=>rfl)) ar (aM _)) (E7 (aG cj (pv 5) ar (aM _))))) (ah (aD (i:=9) cL.nd rfl (by first|exact Or.inl rfl|exact Or.inr rfl) (aO bL (hr.mono (by omega)) rfl aU (aa (bh fL (bg bo rfl M.gf eA (aa (pv 7) af)) aj) (aa (pv 3) af)))) (aq (aD (i:=10) cL.nd rfl (by first|exact Or.inl rfl|exact Or.inr rfl) (ay (aa ar (aa (aO bL (hr.mono (by omega)) rfl aU (aa (bh fL (bg bo rfl M.gf eA (aa (pv 7) af)) aj) (aa (pv 4) af))) af)))))) aN) (kD (bB (lJ (aO B4 (hr.mono (by omega)) rfl aU (aa (aW aR (pv 10) aj (λ_ _=>rfl)) af))) (aq (aD (i:=10) cL.nd rfl (by first|exact Or.inl rfl|exact Or.inr rfl) (ay (aa ar (aa ar af))))) aN) (kD (fJ PassesOwn.never rfl (fZ rfl M.lu (aa aj af)) (bA (i:=11) cL.nd rfl (by first|exact Or.inl rfl|exact Or.inr rfl)) (aq (bB (aG (Kj h84) (aO gM (hr.mono (by omega)) rfl aU (aa (pv 11) (aa (pv 9) (aa (pv 7) (aa (pv 5) (aa aj (aa (pv 6) af))))))) (pv 10) (aM _)) (aq (aB xw)) aN))) (ah (bB (aG (Kj h84) (aO gM (hr.mono (by omega)) rfl aU (aa aj (aa (pv 9) (aa (pv 7) (aa (pv 5) (aa aj (aa (pv 6) af))))))) (ay (aa ar (aa ar af))) (aM _)) (aq (aB xw)) aN) (ah (bB (aG cj (aW aR (pv 10) aj (λ_ _=>rfl)) ar (aM _)) (aq (aB (ja (MG h84) (aO gM (hr.mono (by omega)) rfl aU (aa aj (aa (pv 9) (aa (pv 7) (aa (pv 5) (aa aj (aa (pv 6) af))))))) (pv 10) (aM _)))) aN) (ah (bB (aG cj (pv 5) ar (aM _)) (aq (aB xw)) aN) (aq (aB (ja (MG h84) (aO gM (hr.mono (by omega)) rfl aU (aa aj (aa (pv 9) (aa (pv 7) (aa (pv 5) (aa aj (aa (pv 6) af))))))) (ay (aa ar (aa (ay (aa (aW aR (pv 10) aj (λ_ _=>rfl)) (aa (fK (aa (ay (aa (pv 7) (aa (pv 5) af))) af)) af))) af))) (aM _))))))))))))))))),?_⟩;try dsimp only[jb,c_]
 refine OM ?_;intro _ _ _ _ _;refine⟨(by show 1<=sizeLine;decide),λp hp=>?_⟩;have t0:=ag hp (.lst [V.int 0]);have T0:=KI hS hlen hp;have b0:=hT.mono t0;generalize upd H p (.lst [V.int 0])=H0 at T0 t0 b0⊢;refine⟨_,rfl,_,rfl,_,_,rfl,rfl,⟨by decide,by decide,by decide⟩,a,p,ns,0,_,rfl,T0,(by decide),(by decide),λcl H1 c0 c1 x1 h1=>?_⟩;have T1':=T0.next x1 h1 (by decide);refine⟨cl,rfl,c0,λwd H2 hwd s2=>?_⟩;have T2':=T1'.mono s2;refine⟨_,rfl,_,rfl,_,rfl,a,p,ns,0+1,wd,rfl,T2',(by decide),hwd,λqt b B aC one made r v u m H3 i3 hqt bt x3 h3 i30 i31=>?_⟩;have b1:=b0.sx x1 T0.lF;have b2:=b1.mono s2;have b3:=b2.sx x3 T2'.lF;have T3':=T2'.next x3 h3 (by omega);refine⟨qt,_,rfl,bN.of hqt,rfl,_,_,rfl,_,_,rfl,_,_,rfl,_,_,rfl,rfl,?_⟩;refine⟨(by show 1<=sizeLine;decide),λp5 Qs=>?_⟩;have t5:=ag Qs (.tup [V.int 0]);have h5:(upd H3 p5 (.tup [V.int 0])) p5=some (.tup [V.int 0]):=av;have T5':=T3'.mono t5;refine⟨_,rfl,_,rfl,a,p,ns,i3,4,rfl,T5',(by omega),(by decide),λkz H6 k0 k1 x6 h6=>?_⟩;obtain⟨k,rfl⟩:∃k:Nat,kz=(k:Int):=⟨kz.toNat,by omega⟩;have nt5:=dM T5'.lF;have n5:p5≠p:=λe=>nt5 _ (by rw[<-e];exact h5);have h56:=x6 _ _ n5 h5;have T6':=T5'.next x6 h6 (by omega);have b6:=(b3.mono t5).sx x6 T5'.lF;have nb:b≠p:=λz=>by have e:=bt.b;rw[z,h3]at e;cases e
 refine⟨p5,k,_,rfl,rfl,h56,by simp,(by omega),(by decide),λpp H7 s7 h7=>?_⟩;have nt3:=dM T3'.lF;have ZN:cJ p H3 H6:=t5.x.trans x6;have D7:Md H7 T1 T2 B b aC one made r v u k [] (.ref pp):=by refine⟨(bt.r1.gW ZN nt3).mono s7,(bt.r2.gW ZN nt3).mono s7,s7 _ _ (ZN _ _ nb bt.b),(bt.bk.sx ZN T3'.lF).mono s7,bt.c.weak bt.hm,bt.rl,?_,b6.mono s7,by omega, .inl ⟨rfl,bt.hd⟩⟩;rw[List.append_nil];exact⟨pp,_,rfl,h7,xA k⟩
 have T7':=T6'.mono s7;let aaB:L2.St->Hp->Prop:=λaY H'=>∃(one made:KM.D)(v u:V)(pl:List Nat)(pw:V)(sv:Option V),aY=[some (.ref a),some (.ref p),some (.str wd),some v,some u,some (.str r),some (.ref b),some pw,sv,none,none,none]/\Md H' T1 T2 B b aC one made r v u k pl pw;refine⟨aaB,?_,?_⟩;·refine⟨_,rfl,rfl,_,rfl,aZ (λcn=>?_) (λ_=>nI ⟨one,made,v,u,[],_,_,rfl,D7⟩)⟩;have cn:V.str r=V.str "name":=of_decide_eq_true cn;injection cn with cn;subst cn;obtain⟨e1,e2,e3,e4,e5⟩:=bt.nm rfl;subst e1 e2;refine⟨_,rfl,_,rfl,a,p,ns,i3+1,3,rfl,T7',(by omega),(by decide),λz8 H8 _ _ x8 h8=>⟨_,_,rfl,rfl,_,rfl,?_⟩⟩;have nt7:=dM T7'.lF;have D8:Md H8 T1 T2 B b aC _ _ _ v u k [] (.ref pp):=⟨D7.r1.gW x8 nt7,D7.r2.gW x8 nt7,x8 _ _ nb D7.b,D7.bk.sx x8 T7'.lF,D7.c,D7.rl,D7.pw.gW x8 nt7,D7.t.sx x8 T7'.lF,D7.k3,D7.cs⟩;refine aZ (λ_=>?_) (λ_=>⟨_,_,v,u,[],_,_,rfl,D8⟩);refine⟨300,rfl,(by decide),(by decide),λdS vS H9 s9 rS wS aS=>⟨_,rfl,_,rfl,(by show 3<=sizeLine;decide),λa1 jG=>⟨_,rfl,_,rfl,(by show 3<=sizeLine;decide),λa2 F0=>⟨_,rfl,(by show 1<=sizeLine;decide),λz1 Og=>?_⟩⟩⟩⟩;have u1:=ag jG (.tup [V.str "app",v,vS]);have u2:=ag F0 (.tup [V.str "app",u,vS]);have u3:=ag Og (.tup [V.int 0]);have D9:=D8.mono s9;have rA:=(aE jG (rs (dU (x:="app")) (rs D9.r1 (rs rS r0)))).mono (u2.trans u3);have rB:=(aE F0 (rs (dU (x:="app")) (rs (D9.r2.mono u1) (rs (rS.mono u1) r0)))).mono u3;have UH:=D9.mono (u1.trans (u2.trans u3));have hz:(upd (upd (upd H9 a1 (.tup [V.str "app",v,vS])) a2 (.tup [V.str "app",u,vS])) z1 (.tup [V.int 0])) z1=some (.tup [V.int 0]):=av;generalize upd (upd (upd H9 a1 (.tup [V.str "app",v,vS])) a2 (.tup [V.str "app",u,vS])) z1 (.tup [V.int 0])=Mr at rA rB UH hz⊢;obtain⟨pt,QW,ept,Vu,rws⟩:=id UH.pw;cases ept;have YZ:=rws.length;rw[List.append_nil,List.length_map,List.length_replicate]at YZ;refine⟨pp,z1,QW,_,rfl,rfl,Vu,hz,(by rw[sizeLine_eq,List.length_singleton];omega),λpq H11 N_ h11=>?_⟩;refine⟨_,_, .ref a1, .ref a2,[0], .ref pq,_,rfl,⟨rA.mono N_,rB.mono N_,N_ _ _ UH.b,UH.bk.mono N_,(Py e3 e4 e5 wS aS).weak (by decide),UH.rl,⟨pq,_,rfl,h11,?_⟩,UH.t.mono N_,UH.k3, .inr ⟨rfl,rfl,rfl⟩⟩⟩;rw[List.map_append];rw[List.append_nil]at rws;exact(rws.mono N_).append ⟨V.int 0,[],rfl,rfl,rfl⟩
 rintro aY H8⟨one,made,v,u,pl,pw,sv,rfl,D8⟩;clear D7 bt;obtain⟨pt,QW,ept,Vu,rws⟩:=id D8.pw;subst ept;have YZ:=rws.length;rw[List.length_map,List.length_append,List.length_replicate]at YZ;have k3:=D8.k3;have lpl:pl.length<=1:=by rcases D8.cs with⟨e,_⟩|⟨e,_⟩<;>rw[e]<;>decide
 refine⟨_,rfl,pt,_,rfl, .inr (bN.of Vu),_,rfl,QW.length,one,v,rfl,(by omega),D8.r1,λtv H9 s9 rt9=>?_⟩;have D9:=D8.mono s9;refine⟨_,rfl,pt,_,rfl, .inr (bN.of (s9 _ _ Vu)),_,rfl,QW.length,made,u,rfl,(by omega),D9.r2,λdv Mr HS Ye=>⟨(by show 2<=sizeLine;decide),λQC Zp=>?_⟩⟩;have u10:=ag Zp (.tup [V.str "thing",dv]);have PN:Rep (upd Mr QC (.tup [V.str "thing",dv])) (.tup [.str "thing",dJ QW.length made]) (.ref QC):=aE Zp (rs dU (rs Ye r0));have SJ:=D9.mono (HS.trans u10);have Qj:=rt9.mono (HS.trans u10);have D5:=(s9.trans (HS.trans u10)) _ _ Vu;generalize upd Mr QC (.tup [V.str "thing",dv])=H11 at PN SJ Qj D5⊢;let WS:L2.St->Hp->Prop:=λaY H'=>∃(tv dv:V),aY=[some (.ref a),some (.ref p),some (.str wd),some v,some u,some (.str r),some (.ref b),some (.ref pt),sv,some tv,some dv,none]/\Md H' T1 T2 B b aC one made r v u k pl (.ref pt)/\Rep H' (dJ k one) tv/\Rep H' (.tup [.str "thing",dJ k made]) dv;obtain⟨x,ps,ex⟩:=sf D8.c.wf;refine⟨WS,?_,?_⟩
 ·have ro:=SJ.r1;rw[ex]at ro;obtain⟨ao,J5,rfl,hao,v0,us,rfl,⟨rfl,hx⟩,rps⟩:=id ro;refine⟨_,rfl,ao,_,_,_,rfl,rfl,bN.of hao,aF (j:=0) rfl,rfl,_,rfl,?_⟩;rcases D8.cs with⟨epl,FG⟩|⟨epl,hh,hrn⟩
  ·subst epl;have ek:QW.length=k:=by rw[YZ];rfl
   rw[ek]at Qj PN;have j3:WS [some (.ref a),some (.ref p),some (.str wd),some (.ref ao),some u,some (.str r),some (.ref b),some (.ref pt),sv,some tv,some (.ref QC),none] H11:=⟨tv, .ref QC,rfl,SJ,Qj,PN⟩;refine aZ (λca=>?_) (λ_=>nI j3);have ca:V.str x=V.str "app":=of_decide_eq_true ca;injection ca with ca;have hn:r≠"name":=FG (by rw[ex];exact ca);refine⟨_,rfl,rfl,_,rfl,aZ (λc=>absurd (of_decide_eq_true c) (λz=>hn (by injection z))) (λ_=>j3)⟩
  ·subst epl hrn;have ca:x="app":=by rw[ex]at hh;exact hh
   subst ca;have ek:QW.length=k+1:=by rw[YZ];rfl
   refine aZ (λ_=>?_) (λc=>absurd (decide_eq_true rfl) c);refine⟨_,rfl,rfl,_,rfl,aZ (λ_=>?_) (λc=>absurd (decide_eq_true rfl) c)⟩;have e1:((QW.length:Nat):Int)-1=((k:Nat):Int):=by omega
   refine⟨_,rfl,pt,_,rfl, .inr (bN.of D5),_,_,rfl,rfl,_,rfl,k,_, .ref ao,congrArg (λz=>[V.int z,V.ref ao]) e1,(by omega),SJ.r1,λtv2 H12 CB Kp=>?_⟩;refine⟨_,rfl,pt,_,rfl, .inr (bN.of (CB _ _ D5)),_,_,rfl,rfl,_,rfl,k,made,u,congrArg (λz=>[V.int z,u]) e1,(by omega),(SJ.mono CB).r2,λdv2 ZQ mY Qf=>⟨(by show 2<=sizeLine;decide),λV0 Ju=>?_⟩⟩;have u13:=ag Ju (.tup [V.str "thing",dv2]);exact⟨tv2, .ref V0,rfl,SJ.mono (CB.trans (mY.trans u13)),Kp.mono (mY.trans u13),aE Ju (rs dU (rs Qf r0))⟩
 rintro aY H12⟨tv,dv,rfl,D12,Kp,TL⟩;clear D8 D9 SJ Qj PN D5 Vu rws s9 HS u10 rt9 Ye;have C:=D12.c.QQ k;have Cdm:=C.dm;have Cdp:=C.dp;obtain⟨ad,us,rfl,Ui,v0,us,rfl,⟨rfl,_⟩,v1,us,rfl,De,rn⟩:=id TL;cases(show us=[]from rn);let abj:L2.St->Hp->Prop:=λaY H'=>∃(dv:V),aY=[some (.ref a),some (.ref p),some (.str wd),some v,some u,some (.str r),some (.ref b),some (.ref pt),sv,some tv,some dv,none]/\Md H' T1 T2 B b aC one made r v u k pl (.ref pt)/\Rep H' (dJ k one) tv/\Rep H' (Oo (bx (dJ k made)) (dJ k made)) dv;refine⟨abj,?_,?_⟩
 ·refine⟨_,rfl,ad,_,_,_,rfl,rfl,bN.of Ui,aF (j:=1) rfl,dJ k made,v1,rfl,De,⟨⟨_,C.Vw⟩,by omega,Nat.zero_le _⟩,λZQ mY=>⟨_,rfl,aZ (λcg=>?_) (λcg=>?_)⟩⟩;·refine⟨(by show 2<=sizeLine;decide),λV0 Ju=>⟨.ref V0,rfl,D12.mono (mY.trans (ag Ju _)),Kp.mono (mY.trans (ag Ju _)),?_⟩⟩;rw[show bx (dJ k made)=true from cg];exact aE Ju (rs dU (rs dU r0))
  ·refine⟨.ref ad,rfl,D12.mono mY,Kp.mono mY,?_⟩;rw[show bx (dJ k made)=false from Bool.eq_false_iff.mpr cg];exact TL.mono mY
 rintro aY ZQ⟨dv,rfl,VE,abH,Qf⟩;clear D12 Kp TL Ui De rn;obtain⟨e',g,ok,ep,eg⟩:=C.st (by omega);have OZ:∀{H':Hp},aA ZQ H'->To H' T1 T2 B (dJ k one) tv (mU (List.replicate k 0++pl)) (.ref pt) b aC:=λs'=>⟨abH.mono s',by rw[Hk];exact VE.pw.mono s',s' _ _ VE.b,VE.bk.mono s',VE.t.mono s'⟩;have rz:Rz (dJ k one) 60:=⟨⟨_,C.wf⟩,by omega,Nat.zero_le _⟩;let aaU:L2.St->Hp->Prop:=λaY H'=>∃(wv:Option V),aY=[some (.ref a),some (.ref p),some (.str wd),some v,some u,some (.str r),some (.ref b),some (.ref pt),sv,some tv,some dv,wv]/\aA ZQ H';refine⟨aaU,?_,?_⟩
 ·refine⟨2,rfl,(by decide),(by decide),?_⟩;let CF:Nat->L2.St->Hp->Prop:=(λj aY H'=>∃(wv:Option V),aY=[some (.ref a),some (.ref p),some (.str wd),some v,some u,some (.str r),some (.ref b),some (.ref pt),sv,some tv,some dv,wv]/\aA ZQ H');refine iC 2 CF ?_ ?_ ?_;·exact⟨none,rfl,aA.refl _⟩
  ·rintro j aY H14 hj⟨wv,rfl,wV⟩;refine⟨hj,?_⟩;rintro x' H15⟨rfl,rfl⟩;refine⟨_,rfl,_,rfl,_,rfl,_,rfl,_,rfl,B,dJ k one,tv,_, .ref pt,r,b,aC,0,0+(j:Int),rfl,OZ wV, .inl ⟨by omega,by omega,e',g,ok,λu15 H16 RN r16=>?_⟩⟩;rw[ep,eg]at r16;obtain⟨xs,X1,X2,X3,X4⟩:=NF C.Vw (by omega) r16 (Qf.mono (wV.trans RN));exact⟨_,rfl,xs,X1,X2,X3,X4,_,rfl,nI ⟨_,rfl,wV.trans RN⟩⟩
  ·rintro aY H14⟨wv,rfl,wV⟩;exact⟨Nat.le_refl _,wv,rfl,wV⟩
 rintro aY H14⟨wv,rfl,wV⟩;refine⟨_,rfl,_,rfl,_,rfl,_,rfl,B,dJ k one,tv,_, .ref pt,r,b,aC,0,2,rfl,OZ wV, .inr ⟨rfl,rz,[], .Ue,C.Ue,by decide,λu15 H15 s15 r15=>⟨(by show 2<=sizeLine;decide),λq16 YN=>?_⟩⟩⟩;have t16:=ag YN (.tup [V.str "refused", .str "dry"]);have r15:Rep H15 (N2 "dry") u15:=r15;refine⟨_,ft (ds:=[.str "refused", .str "dry"]) (r15.mono t16),ft (ds:=[.str "refused", .str "dry"]) (aE YN (rs dU (rs dU r0))),rfl,(by show max 0 (max 0 0)<=80;decide),_,rfl,nI ?_⟩;have RN:=wV.trans (s15.trans t16);generalize upd H15 q16 (.tup [V.str "refused", .str "dry"])=H16 at RN⊢;have M_:=Qf.mono RN;cases hg:bx (dJ k made)with
  |true=>rw[hg]at M_;obtain⟨ad,us,rfl,Ui,v0,us,rfl,⟨rfl,_⟩,v1,us,rfl,De,rn⟩:=id M_;cases(show us=[]from rn);refine⟨_,rfl,ad,_,_,_,rfl,rfl,bN.of Ui,aF (j:=0) rfl,rfl,_,rfl,aZ (λ_=>?_) (λc=>absurd (decide_eq_true rfl) c)⟩;refine⟨_,rfl,_,rfl,_,rfl,_,rfl,B,dJ k one,tv,_, .ref pt,r,b,aC,1,2,rfl,OZ RN, .inr ⟨rfl,rz,[], .great,C.great (by omega) hg,by decide,λu17 XO ZF Wc=>?_⟩⟩;have Wc:Rep XO (N2 "great") u17:=Wc;exact⟨_,rfl,_,ft (ds:=[.str "refused", .str "great"]) Wc,ft (ds:=[.str "refused", .str "great"]) (M_.mono ZF),rfl,(by show max 0 (max 0 0)<=80;decide),q _⟩
  |false=>
   rw[hg]at M_;obtain⟨ad,us,rfl,Ui,v0,us,rfl,⟨rfl,_⟩,v1,us,rfl,De,rn⟩:=id M_;cases(show us=[]from rn);refine⟨_,rfl,ad,_,_,_,rfl,rfl,bN.of Ui,aF (j:=0) rfl,rfl,_,rfl,aZ (λc=>absurd (of_decide_eq_true c) (by decide+kernel)) (λ_=>?_)⟩;refine⟨_,rfl,rfl,_,rfl,aZ (λ_=>q _) (λcr=>?_)⟩;have Ri:r≠"next":=λz=>cr (decide_eq_true (by rw[z]));refine⟨_,rfl,_,rfl,_,rfl,_,rfl,B,dJ k one,tv,_, .ref pt,r,b,aC,1,2,rfl,OZ RN, .inr ⟨rfl,rz,[(List.replicate k 0++pl,r)], .ok (dJ k made),C.ok (by omega) Ri hg,by simp,λu17 XO ZF Wc=>?_⟩⟩;refine⟨_,rfl,ad,_,_,_,rfl,rfl,bN.of (ZF _ _ Ui),aF (j:=1) rfl,_,rfl,_,rfl,(by show 2<=sizeLine;decide),λq1 mM=>⟨(by show 1<=sizeLine;decide),λq2 Vk=>⟨(by show 2<=sizeLine;decide),λq3 hq3=>⟨(by show 2<=sizeLine;decide),λq4 VT=>?_⟩⟩⟩⟩;have m1:=ag mM (.tup [V.ref pt, .str r]);have m2:=ag Vk (.lst [V.ref q1]);have m3:=ag hq3 (.tup [v1,V.ref q2]);have m4:=ag VT (.tup [V.str "thing",V.ref q3]);have h1:=m4 _ _ (m3 _ _ (m2 _ _ (show(upd XO q1 (.tup [V.ref pt, .str r])) q1=some (.tup [V.ref pt, .str r])from av)));have h2:=m4 _ _ (m3 _ _ (show(upd (upd XO q1 (.tup [V.ref pt, .str r])) q2 (.lst [V.ref q1])) q2=some (.lst [V.ref q1])from av));have h3:=m4 _ _ (show(upd (upd (upd XO q1 (.tup [V.ref pt, .str r])) q2 (.lst [V.ref q1])) q3 (.tup [v1,V.ref q2])) q3=some (.tup [v1,V.ref q2])from av);have mm:=m1.trans (m2.trans (m3.trans m4));have hl:=VE.rl;refine⟨[.d (.str "thing"), .tup [.d (dJ k made), .lst [.d (JI (List.replicate k 0++pl,r))]]],xn mm _ _ Wc,⟨q4,_,rfl,av,⟨_,_,rfl,⟨rfl,by decide⟩,⟨_,_,rfl,⟨q3,_,rfl,h3,⟨_,_,rfl,De.mono (ZF.trans mm),⟨_,_,rfl,⟨q2,_,rfl,h2,⟨_,_,rfl,⟨q1,_,rfl,h1,⟨_,_,rfl,VE.pw.mono (RN.trans (ZF.trans mm)),⟨_,_,rfl,⟨rfl,show r.length<=1000 by omega⟩,rfl⟩⟩⟩,rfl⟩⟩,rfl⟩⟩⟩,rfl⟩⟩⟩,?_,?_,q _⟩;·exact WR (Ik C.Vw) _
   ·exact XQ (by omega) _
end K26
end
section
set_option maxHeartbeats 4000000
namespace K26
open PySem L2 L3 KM
structure Txt(K:PySem.W.Frag)(mg:Str->Option Value)(t:jo):Prop where
 M:Mg mg t
 Bi:Df K mg "is_number" fH ["value"]
 Ja:Df K mg "is_vast" gb ["value"]
 IX:Df K mg "kids_of" iV ["thing"]
 CK:Df K mg "binds_of" eZ ["thing"]
 wg:Df K mg "top_variable" cw ["thing"]
 IJ:Df K mg "bounded" iW ["thing"]
 IU:Df K mg "rebuilt" iQ ["thing","kids"]
 Kc:Df K mg "kid_at" kN ["thing","number"]
 Dt:Df K mg "at_place" gT ["thing","place"]
 yF:Df K mg "changed_at" dI ["thing","place","new"]
 Jd:Df K mg "with_at" iU ["thing","place","new"]
 mE:Df K mg "with_free" dE ["thing","binders","change"]
 L0:Df K mg "raised" iK ["thing","by","low"]
 MI:Df K mg "put_in" h_ ["thing","other","at"]
 JR:Df K mg "rule_of" iT ["thing","book"]
 zy:Df K mg "after_next" eV ["thing"]
 z4:Df K mg "after_rule" eO ["thing","rule","book"]
 JF:Df K mg "stepped" i_ ["thing","place","book"]
 zh:Df K mg "first_step" dH ["thing","book"]
 LK:Df K mg "normal" kT ["thing","fuel","book"]
 MM:Df K mg "walked" kx ["thing","log","book"]
 Dn:Df K mg "_law_draw" gA ["_law_script","_law_tape","_law_many"]
 vI:Df K mg "_law_measured" cT ["_law_thing"]
 A5:Df K mg "_law_great" fk ["_law_thing"]
 DR:Df K mg "_law_kids" gj ["_law_thing"]
 C2:Df K mg "_law_word" gO ["_law_e"]
 A2:Df K mg "_law_sized" eC ["_law_many"]
 BN:Df K mg "_law_nexts" fB ["_law_many","_law_thing"]
 BM:Df K mg "_law_named" fz ["_law_word_here"]
 wD:Df K mg "_law_word_by" de ["_law_cell"]
 A0:Df K mg "_law_built" fD ["_law_script","_law_tape","_law_word_here"]
 DC:Df K mg "_law_told" gs ["_law_way","_law_thing","_law_place","_law_rule","_law_fuel","_law_book"]
 Zx:Df K mg "law" HH ["_law_script"]
 Dv:∃as,KD K t.vv [("nat",[]),("none",[]),("all",[.str "kind", .str "kind"]),("some",[.str "kind", .str "kind"]),("same",[.str "kind", .str "term", .str "term"]),("var",[]),("fun",[.str "kind", .str "term"]),("app",[.str "term", .str "term"]),("zero",[]),("next",[.str "term"]),("rec",[.str "kind", .str "term", .str "term", .str "term"]),("like",[.str "kind", .str "term"]),("carry",[.str "kind", .str "term", .str "term"]),("never",[.str "kind", .str "term"]),("pair",[.str "kind", .str "term", .str "term"]),("first",[.str "term"]),("second",[.str "term"]),("name",[])] as
 xj:jE K t.iq [("all", .int 1),("some", .int 1),("fun", .int 1),("rec", .int 0),("carry", .int 0)]
 P9:Rul K t.Hc
 X:Ek K t
theorem txt_mk{K:PySem.W.Frag}{h:Heap}{mg:Str->Option Value}(X:K.In h)(G:h.Ns mainGlobals mg){xh:Tok}{yJ:Tok}{l7:Tok}{gP:Addr}{iu:Array DictEntry}{BY:Nat}{l_ mn mJ mT mH mr mj mf md mL kU jX jV jL kr k9 kS kP:Addr}{zb:Option Addr}{lA:Array Value}{Al:Nat}{yn:Array (Option Value)}{zD:Option Addr}{ky:Array Value}{yt:Nat}{zm:Array (Option Value)}{yk:Option Addr}{jK:Array Value}{zG:Nat}{zO:Array (Option Value)}{za:Option Addr}{j_:Array Value}{zo:Nat}{yV:Array (Option Value)}{zP:Option Addr}{kX:Array Value}{yo:Nat}{Aw:Array (Option Value)}{zC:Option Addr}{jU:Array Value}{zY:Nat}{yq:Array (Option Value)}{Ae:Option Addr}{jI:Array Value}{yW:Nat}{yr:Array (Option Value)}{yx:Option Addr}{j2:Array Value}{yH:Nat}{zN:Array (Option Value)}{AU:Option Addr}{mO:Array Value}{Co:Nat}{Bk:Array (Option Value)}{Bf:Option Addr}{mP:Array Value}{BF:Nat}{Bc:Array (Option Value)}{Bm:Option Addr}{mi:Array Value}{BA:Nat}{AG:Array (Option Value)}{B2:Option Addr}{mR:Array Value}{Bw:Nat}{BS:Array (Option Value)}{Br:Option Addr}{mB:Array Value}{BD:Nat}{Ct:Array (Option Value)}{BW:Option Addr}{mh:Array Value}{AV:Nat}{Cc:Array (Option Value)}{A8:Option Addr}{ml:Array Value}{Bn:Nat}{Bd:Array (Option Value)}{B0:Option Addr}{mV:Array Value}{Bv:Nat}{BU:Array (Option Value)}{AM:Option Addr}{mS:Array Value}{AJ:Nat}{B3:Array (Option Value)}{BI:Option Addr}{my:Array Value}{Cd:Nat}{B_:Array (Option Value)}{eB:Addr}{iD:Array DictEntry}{va:Nat}{rJ:Addr}{vq:Array DictEntry}{NX:Nat}{kq jY kb jM jH:Addr}{gQ:Addr}{MA:Option Addr}{A1:Array Value}{Nu:Nat}{NT:Array (Option Value)}{DP:Option Addr}{vb:Array Value}{Dq:Nat}{Dj:Array (Option Value)}{gp gB:Addr}{LQ:Option Addr}{B9:Array Value}{L8:Nat}{N7:Array (Option Value)}{DO:Option Addr}{vC:Array Value}{CM:Nat}{Dp:Array (Option Value)}{C1:Option Addr}{vM:Array Value}{C6:Nat}{Dw:Array (Option Value)}{gH:Addr}{Lu:Option Addr}{B7:Array Value}{K2:Nat}{NW:Array (Option Value)}{CJ:Option Addr}{vR:Array Value}{C9:Nat}{DL:Array (Option Value)}{gq:Addr}{LN:Option Addr}{BH:Array Value}{Ky:Nat}{KL:Array (Option Value)}{CG:Option Addr}{wj:Array Value}{Dx:Nat}{DN:Array (Option Value)}{gS:Addr}{Mo:Option Addr}{Bo:Array Value}{Kl:Nat}{KW:Array (Option Value)}{CS:Option Addr}{vk:Array Value}{Dg:Nat}{DB:Array (Option Value)}{dq:Addr}{bp:Addr}{fR:Addr}{iE:Addr}{cu:Addr}{eT:Addr}{kj:Addr}{kA:Addr}{iP:Addr}{iZ:Addr}{j8:Addr}{j6:Addr}{kg:Addr}{fC:Addr}{fA:Addr}(a0:cN K "is_number" fH)(a1:cN K "is_vast" gb)(a2:cN K "kids_of" iV)(a3:cN K "binds_of" eZ)(a4:cN K "top_variable" cw)(a5:cN K "bounded" iW)(a6:cN K "rebuilt" iQ)(a7:cN K "kid_at" kN)(a8:cN K "at_place" gT)(a9:cN K "changed_at" dI)(a10:cN K "with_at" iU)(a11:cN K "with_free" dE)(a12:cN K "raised" iK)(a13:cN K "put_in" h_)(a14:cN K "rule_of" iT)(a15:cN K "after_next" eV)(a16:cN K "after_rule" eO)(a17:cN K "stepped" i_)(a18:cN K "first_step" dH)(a19:cN K "normal" kT)(a20:cN K "walked" kx)(a21:cN K "_law_draw" gA)(a22:cN K "_law_measured" cT)(a23:cN K "_law_great" fk)(a24:cN K "_law_kids" gj)(a25:cN K "_law_word" gO)(a26:cN K "_law_sized" eC)(a27:cN K "_law_nexts" fB)(a28:cN K "_law_named" fz)(a29:cN K "_law_word_by" de)(a30:cN K "_law_built" fD)(a31:cN K "_law_told" gs)(a32:cN K "law" HH)(z_ValueError:PySem.W.nsIn K mainGlobals "ValueError"=some none)(z_bool:PySem.W.nsIn K mainGlobals "bool"=some none)(z_enumerate:PySem.W.nsIn K mainGlobals "enumerate"=some none)(z_int:PySem.W.nsIn K mainGlobals "int"=some none)(z_isinstance:PySem.W.nsIn K mainGlobals "isinstance"=some none)(z_len:PySem.W.nsIn K mainGlobals "len"=some none)(z_list:PySem.W.nsIn K mainGlobals "list"=some none)(z_max:PySem.W.nsIn K mainGlobals "max"=some none)(z_range:PySem.W.nsIn K mainGlobals "range"=some none)(z_tuple:PySem.W.nsIn K mainGlobals "tuple"=some none)(z_zip:PySem.W.nsIn K mainGlobals "zip"=some none)(g_MOST_KNOTS:PySem.W.nsIn K mainGlobals "MOST_KNOTS"=some (some (.int 600 xh)))(g_MOST_DEEP:PySem.W.nsIn K mainGlobals "MOST_DEEP"=some (some (.int 40 yJ)))(g_MOST_VARIABLE:PySem.W.nsIn K mainGlobals "MOST_VARIABLE"=some (some (.int 99 l7)))(g_KIDS_DUE:PySem.W.nsIn K mainGlobals "KIDS_DUE"=some (some (.ref gP)))(lk_KIDS_DUE:K.lookup gP=some ⟨.type "dict",none, .dict iu BY,#[]⟩)(sy_KIDS_DUE:(gP==sysModules)=false)(ks_KIDS_DUE:eP iu.toList ["nat","none","all","some","same","var","fun","app","zero","next","rec","like","carry","never","pair","first","second","name"]=true)(rf_KIDS_DUE:refsOf iu.toList=[l_,mn,mJ,mT,mH,mr,mj,mf,md,mL,kU,jX,jV,jL,kr,k9,kS,kP])(u0_KIDS_DUE:K.lookup l_=some ⟨.type "tuple",BI, .seq my Cd,B_⟩)(v0_KIDS_DUE:bM [] my=true)(u1_KIDS_DUE:K.lookup mn=some ⟨.type "tuple",AM, .seq mS AJ,B3⟩)(v1_KIDS_DUE:bM [] mS=true)(u2_KIDS_DUE:K.lookup mJ=some ⟨.type "tuple",B0, .seq mV Bv,BU⟩)(v2_KIDS_DUE:bM [.str "kind", .str "kind"] mV=true)(u3_KIDS_DUE:K.lookup mT=some ⟨.type "tuple",A8, .seq ml Bn,Bd⟩)(v3_KIDS_DUE:bM [.str "kind", .str "kind"] ml=true)(u4_KIDS_DUE:K.lookup mH=some ⟨.type "tuple",BW, .seq mh AV,Cc⟩)(v4_KIDS_DUE:bM [.str "kind", .str "term", .str "term"] mh=true)(u5_KIDS_DUE:K.lookup mr=some ⟨.type "tuple",Br, .seq mB BD,Ct⟩)(v5_KIDS_DUE:bM [] mB=true)(u6_KIDS_DUE:K.lookup mj=some ⟨.type "tuple",B2, .seq mR Bw,BS⟩)(v6_KIDS_DUE:bM [.str "kind", .str "term"] mR=true)(u7_KIDS_DUE:K.lookup mf=some ⟨.type "tuple",Bm, .seq mi BA,AG⟩)(v7_KIDS_DUE:bM [.str "term", .str "term"] mi=true)(u8_KIDS_DUE:K.lookup md=some ⟨.type "tuple",Bf, .seq mP BF,Bc⟩)(v8_KIDS_DUE:bM [] mP=true)(u9_KIDS_DUE:K.lookup mL=some ⟨.type "tuple",AU, .seq mO Co,Bk⟩)(v9_KIDS_DUE:bM [.str "term"] mO=true)(u10_KIDS_DUE:K.lookup kU=some ⟨.type "tuple",yx, .seq j2 yH,zN⟩)(v10_KIDS_DUE:bM [.str "kind", .str "term", .str "term", .str "term"] j2=true)(u11_KIDS_DUE:K.lookup jX=some ⟨.type "tuple",Ae, .seq jI yW,yr⟩)(v11_KIDS_DUE:bM [.str "kind", .str "term"] jI=true)(u12_KIDS_DUE:K.lookup jV=some ⟨.type "tuple",zC, .seq jU zY,yq⟩)(v12_KIDS_DUE:bM [.str "kind", .str "term", .str "term"] jU=true)(u13_KIDS_DUE:K.lookup jL=some ⟨.type "tuple",zP, .seq kX yo,Aw⟩)(v13_KIDS_DUE:bM [.str "kind", .str "term"] kX=true)(u14_KIDS_DUE:K.lookup kr=some ⟨.type "tuple",za, .seq j_ zo,yV⟩)(v14_KIDS_DUE:bM [.str "kind", .str "term", .str "term"] j_=true)(u15_KIDS_DUE:K.lookup k9=some ⟨.type "tuple",yk, .seq jK zG,zO⟩)(v15_KIDS_DUE:bM [.str "term"] jK=true)(u16_KIDS_DUE:K.lookup kS=some ⟨.type "tuple",zD, .seq ky yt,zm⟩)(v16_KIDS_DUE:bM [.str "term"] ky=true)(u17_KIDS_DUE:K.lookup kP=some ⟨.type "tuple",zb, .seq lA Al,yn⟩)(v17_KIDS_DUE:bM [] lA=true)(g_BINDER_OVER:PySem.W.nsIn K mainGlobals "BINDER_OVER"=some (some (.ref eB)))(lk_BINDER_OVER:K.lookup eB=some ⟨.type "dict",none, .dict iD va,#[]⟩)(sy_BINDER_OVER:(eB==sysModules)=false)(vs_BINDER_OVER:gV iD.toList [("all",1),("some",1),("fun",1),("rec",0),("carry",0)]=true)(g_RULES:PySem.W.nsIn K mainGlobals "RULES"=some (some (.ref rJ)))(lk_RULES:K.lookup rJ=some ⟨.type "dict",none, .dict vq NX,#[]⟩)(sy_RULES:(rJ==sysModules)=false)(ks_RULES:eP vq.toList ["app","rec","carry","first","second"]=true)(rf_RULES:refsOf vq.toList=[kq,jY,kb,jM,jH])(u0_RULES:K.lookup kq=some ⟨.type "tuple",MA, .seq A1 Nu,NT⟩)(v0_RULES:A1.toList=[Value.ref gQ])(u0_0_RULES:K.lookup gQ=some ⟨.type "tuple",DP, .seq vb Dq,Dj⟩)(v0_0_RULES:bM [.int 1, .str "fun", .str "fun"] vb=true)(u1_RULES:K.lookup jY=some ⟨.type "tuple",LQ, .seq B9 L8,N7⟩)(v1_RULES:B9.toList=[Value.ref gp,Value.ref gB])(u1_0_RULES:K.lookup gp=some ⟨.type "tuple",DO, .seq vC CM,Dp⟩)(v1_0_RULES:bM [.int 4, .str "zero", .str "zero"] vC=true)(u1_1_RULES:K.lookup gB=some ⟨.type "tuple",C1, .seq vM C6,Dw⟩)(v1_1_RULES:bM [.int 4, .str "next", .str "next"] vM=true)(u2_RULES:K.lookup kb=some ⟨.type "tuple",Lu, .seq B7 K2,NW⟩)(v2_RULES:B7.toList=[Value.ref gH])(u2_0_RULES:K.lookup gH=some ⟨.type "tuple",CJ, .seq vR C9,DL⟩)(v2_0_RULES:bM [.int 3, .str "like", .str "like"] vR=true)(u3_RULES:K.lookup jM=some ⟨.type "tuple",LN, .seq BH Ky,KL⟩)(v3_RULES:BH.toList=[Value.ref gq])(u3_0_RULES:K.lookup gq=some ⟨.type "tuple",CG, .seq wj Dx,DN⟩)(v3_0_RULES:bM [.int 1, .str "pair", .str "first"] wj=true)(u4_RULES:K.lookup jH=some ⟨.type "tuple",Mo, .seq Bo Kl,KW⟩)(v4_RULES:Bo.toList=[Value.ref gS])(u4_0_RULES:K.lookup gS=some ⟨.type "tuple",CS, .seq vk Dg,DB⟩)(v4_0_RULES:bM [.int 1, .str "pair", .str "second"] vk=true)(g_KeeperError:PySem.W.nsIn K mainGlobals "KeeperError"=some (some (.ref dq)))(g_Great:PySem.W.nsIn K mainGlobals "Great"=some (some (.ref bp)))(g_NoPlace:PySem.W.nsIn K mainGlobals "NoPlace"=some (some (.ref fR)))(g_NoStep:PySem.W.nsIn K mainGlobals "NoStep"=some (some (.ref iE)))(g_Dry:PySem.W.nsIn K mainGlobals "Dry"=some (some (.ref cu)))(g_NoVariable:PySem.W.nsIn K mainGlobals "NoVariable"=some (some (.ref eT)))(g_NoName:PySem.W.nsIn K mainGlobals "NoName"=some (some (.ref kj)))(g_NotAll:PySem.W.nsIn K mainGlobals "NotAll"=some (some (.ref kA)))(g_NotSome:PySem.W.nsIn K mainGlobals "NotSome"=some (some (.ref iP)))(g_NotSame:PySem.W.nsIn K mainGlobals "NotSame"=some (some (.ref iZ)))(g_Unlike:PySem.W.nsIn K mainGlobals "Unlike"=some (some (.ref j8)))(g_NoText:PySem.W.nsIn K mainGlobals "NoText"=some (some (.ref j6)))(g_NoWord:PySem.W.nsIn K mainGlobals "NoWord"=some (some (.ref kg)))(g_TwiceTold:PySem.W.nsIn K mainGlobals "TwiceTold"=some (some (.ref fC)))(g_NotClosed:PySem.W.nsIn K mainGlobals "NotClosed"=some (some (.ref fA)))(x_gr:PySem.W.excIn K bp [.type "ValueError", .type "Exception", .type "BaseException", .type "object"] "ValueError.__new__"=true)(x_dr:PySem.W.excIn K cu [.type "ValueError", .type "Exception", .type "BaseException", .type "object"] "ValueError.__new__"=true)(x_ns:PySem.W.excIn K iE [.type "ValueError", .type "Exception", .type "BaseException", .type "object"] "ValueError.__new__"=true)(x_np:PySem.W.excIn K fR [.type "ValueError", .type "Exception", .type "BaseException", .type "object"] "ValueError.__new__"=true)(x_ke:PySem.W.excIn K dq [.type "ValueError", .type "Exception", .type "BaseException", .type "object"] "ValueError.__new__"=true)(x_cg1:PySem.W.findIn K (.ref bp) "__getattribute__"=some (some (.builtin "BaseException.__getattribute__")))(x_cg2:PySem.W.findIn K (.ref bp) "__class__"=some (some (.builtin "object.__class__")))(x_cg3:PySem.W.findIn K (.ref bp) "__getattr__"=some none)(x_cg4:PySem.W.mroIn K bp (.type "object")=some true)(x_cg5:PySem.W.mroIn K bp (.type "BaseException")=some true)(x_cg6:(PySem.W.clsIn K bp).isSome=true)(x_cd1:PySem.W.findIn K (.ref cu) "__getattribute__"=some (some (.builtin "BaseException.__getattribute__")))(x_cd2:PySem.W.findIn K (.ref cu) "__class__"=some (some (.builtin "object.__class__")))(x_cd3:PySem.W.findIn K (.ref cu) "__getattr__"=some none)(x_cd4:PySem.W.mroIn K cu (.type "object")=some true)(x_cd5:PySem.W.mroIn K cu (.type "BaseException")=some true)(x_cd6:(PySem.W.clsIn K cu).isSome=true)(x_s1:PySem.W.subIn K (.ref bp) (.ref dq)=some true)(x_s2:PySem.W.subIn K (.ref cu) (.ref dq)=some true)(x_vg:PySem.W.kitOne K (.ref bp) (.type "ValueError")=some true)(x_vd:PySem.W.kitOne K (.ref cu) (.type "ValueError")=some true)(x_g0:PySem.W.kitOne K (.ref bp) (.ref bp)=some true)(x_d0:PySem.W.kitOne K (.ref cu) (.ref bp)=some false)(x_g1:PySem.W.kitOne K (.ref bp) (.ref fR)=some false)(x_d1:PySem.W.kitOne K (.ref cu) (.ref fR)=some false)(x_g2:PySem.W.kitOne K (.ref bp) (.ref iE)=some false)(x_d2:PySem.W.kitOne K (.ref cu) (.ref iE)=some false)(x_g3:PySem.W.kitOne K (.ref bp) (.ref cu)=some false)(x_d3:PySem.W.kitOne K (.ref cu) (.ref cu)=some true)(x_g4:PySem.W.kitOne K (.ref bp) (.ref eT)=some false)(x_d4:PySem.W.kitOne K (.ref cu) (.ref eT)=some false)(x_g5:PySem.W.kitOne K (.ref bp) (.ref kj)=some false)(x_d5:PySem.W.kitOne K (.ref cu) (.ref kj)=some false)(x_g6:PySem.W.kitOne K (.ref bp) (.ref kA)=some false)(x_d6:PySem.W.kitOne K (.ref cu) (.ref kA)=some false)(x_g7:PySem.W.kitOne K (.ref bp) (.ref iP)=some false)(x_d7:PySem.W.kitOne K (.ref cu) (.ref iP)=some false)(x_g8:PySem.W.kitOne K (.ref bp) (.ref iZ)=some false)(x_d8:PySem.W.kitOne K (.ref cu) (.ref iZ)=some false)(x_g9:PySem.W.kitOne K (.ref bp) (.ref j8)=some false)(x_d9:PySem.W.kitOne K (.ref cu) (.ref j8)=some false)(x_g10:PySem.W.kitOne K (.ref bp) (.ref j6)=some false)(x_d10:PySem.W.kitOne K (.ref cu) (.ref j6)=some false)(x_g11:PySem.W.kitOne K (.ref bp) (.ref kg)=some false)(x_d11:PySem.W.kitOne K (.ref cu) (.ref kg)=some false)(x_g12:PySem.W.kitOne K (.ref bp) (.ref fC)=some false)(x_d12:PySem.W.kitOne K (.ref cu) (.ref fC)=some false)(x_g13:PySem.W.kitOne K (.ref bp) (.ref fA)=some false)(x_d13:PySem.W.kitOne K (.ref cu) (.ref fA)=some false):∃t,Txt K mg t:=⟨⟨(),gP,eB,rJ,dq,bp,fR,iE,cu,eT,kj,kA,iP,iZ,j8,j6,kg,fC,fA⟩,⟨⟨PySem.W.mg_none_of X G z_ValueError,PySem.W.mg_none_of X G z_bool,PySem.W.mg_none_of X G z_enumerate,PySem.W.mg_none_of X G z_int,PySem.W.mg_none_of X G z_isinstance,PySem.W.mg_none_of X G z_len,PySem.W.mg_none_of X G z_list,PySem.W.mg_none_of X G z_max,PySem.W.mg_none_of X G z_range,PySem.W.mg_none_of X G z_tuple,PySem.W.mg_none_of X G z_zip,⟨_,PySem.W.mg_of X G g_MOST_KNOTS⟩,⟨_,PySem.W.mg_of X G g_MOST_DEEP⟩,⟨_,PySem.W.mg_of X G g_MOST_VARIABLE⟩,PySem.W.mg_of X G g_KIDS_DUE,PySem.W.mg_of X G g_BINDER_OVER,PySem.W.mg_of X G g_RULES,PySem.W.mg_of X G g_KeeperError,PySem.W.mg_of X G g_Great,PySem.W.mg_of X G g_NoPlace,PySem.W.mg_of X G g_NoStep,PySem.W.mg_of X G g_Dry,PySem.W.mg_of X G g_NoVariable,PySem.W.mg_of X G g_NoName,PySem.W.mg_of X G g_NotAll,PySem.W.mg_of X G g_NotSome,PySem.W.mg_of X G g_NotSame,PySem.W.mg_of X G g_Unlike,PySem.W.mg_of X G g_NoText,PySem.W.mg_of X G g_NoWord,PySem.W.mg_of X G g_TwiceTold,PySem.W.mg_of X G g_NotClosed⟩,a0.df X G λ_ _ _ _ _ _=>gc (λ_=>rfl),a1.df X G λ_ _ _ _ _ _=>gc (λ_=>rfl),a2.df X G λ_ _ _ _ _ _=>gc (λ_=>rfl),a3.df X G λ_ _ _ _ _ _=>gc (λ_=>rfl),a4.df X G λ_ _ _ _ _ _=>gc (λ_=>rfl),a5.df X G λ_ _ _ _ _ _=>gc (λ_=>rfl),a6.df X G λ_ _ _ _ _ _=>NY (λ_ _=>rfl),a7.df X G λ_ _ _ _ _ _=>NY (λ_ _=>rfl),a8.df X G λ_ _ _ _ _ _=>NY (λ_ _=>rfl),a9.df X G λ_ _ _ _ _ _=>J_ (λ_ _ _=>rfl),a10.df X G λ_ _ _ _ _ _=>J_ (λ_ _ _=>rfl),a11.df X G λ_ _ _ _ _ _=>J_ (λ_ _ _=>rfl),a12.df X G λ_ _ _ _ _ _=>J_ (λ_ _ _=>rfl),a13.df X G λ_ _ _ _ _ _=>J_ (λ_ _ _=>rfl),a14.df X G λ_ _ _ _ _ _=>NY (λ_ _=>rfl),a15.df X G λ_ _ _ _ _ _=>gc (λ_=>rfl),a16.df X G λ_ _ _ _ _ _=>J_ (λ_ _ _=>rfl),a17.df X G λ_ _ _ _ _ _=>J_ (λ_ _ _=>rfl),a18.df X G λ_ _ _ _ _ _=>NY (λ_ _=>rfl),a19.df X G λ_ _ _ _ _ _=>J_ (λ_ _ _=>rfl),a20.df X G λ_ _ _ _ _ _=>J_ (λ_ _ _=>rfl),a21.df X G λ_ _ _ _ _ _=>J_ (λ_ _ _=>rfl),a22.df X G λ_ _ _ _ _ _=>gc (λ_=>rfl),a23.df X G λ_ _ _ _ _ _=>gc (λ_=>rfl),a24.df X G λ_ _ _ _ _ _=>gc (λ_=>rfl),a25.df X G λ_ _ _ _ _ _=>gc (λ_=>rfl),a26.df X G λ_ _ _ _ _ _=>gc (λ_=>rfl),a27.df X G λ_ _ _ _ _ _=>NY (λ_ _=>rfl),a28.df X G λ_ _ _ _ _ _=>gc (λ_=>rfl),a29.df X G λ_ _ _ _ _ _=>gc (λ_=>rfl),a30.df X G λ_ _ _ _ _ _=>J_ (λ_ _ _=>rfl),a31.df X G λ_ _ _ _ _ _=>by6 (λ_ _ _ _ _ _=>rfl),a32.df X G λ_ _ _ _ _ _=>gc (λ_=>rfl),⟨_,Wb sy_KIDS_DUE lk_KIDS_DUE ks_KIDS_DUE rf_KIDS_DUE rfl (bX (bR u0_KIDS_DUE v0_KIDS_DUE) (bX (bR u1_KIDS_DUE v1_KIDS_DUE) (bX (bR u2_KIDS_DUE v2_KIDS_DUE) (bX (bR u3_KIDS_DUE v3_KIDS_DUE) (bX (bR u4_KIDS_DUE v4_KIDS_DUE) (bX (bR u5_KIDS_DUE v5_KIDS_DUE) (bX (bR u6_KIDS_DUE v6_KIDS_DUE) (bX (bR u7_KIDS_DUE v7_KIDS_DUE) (bX (bR u8_KIDS_DUE v8_KIDS_DUE) (bX (bR u9_KIDS_DUE v9_KIDS_DUE) (bX (bR u10_KIDS_DUE v10_KIDS_DUE) (bX (bR u11_KIDS_DUE v11_KIDS_DUE) (bX (bR u12_KIDS_DUE v12_KIDS_DUE) (bX (bR u13_KIDS_DUE v13_KIDS_DUE) (bX (bR u14_KIDS_DUE v14_KIDS_DUE) (bX (bR u15_KIDS_DUE v15_KIDS_DUE) (bX (bR u16_KIDS_DUE v16_KIDS_DUE) (bX (bR u17_KIDS_DUE v17_KIDS_DUE) Ug))))))))))))))))))⟩,Qb sy_BINDER_OVER lk_BINDER_OVER vs_BINDER_OVER,⟨kq,jY,kb,jM,jH,gQ,gp,gB,gH,gq,gS,OO ["app","rec","carry","first","second"] [kq,jY,kb,jM,jH] sy_RULES lk_RULES ks_RULES rf_RULES,vz [gQ] u0_RULES v0_RULES (by simp),bR u0_0_RULES v0_0_RULES,vz [gp,gB] u1_RULES v1_RULES (by simp),bR u1_0_RULES v1_0_RULES,bR u1_1_RULES v1_1_RULES,vz [gH] u2_RULES v2_RULES (by simp),bR u2_0_RULES v2_0_RULES,vz [gq] u3_RULES v3_RULES (by simp),bR u3_0_RULES v3_0_RULES,vz [gS] u4_RULES v4_RULES (by simp),bR u4_0_RULES v4_0_RULES⟩,⟨⟨_,_,_,PySem.F.excBase_ValueError,x_gr⟩,⟨_,_,_,PySem.F.excBase_ValueError,x_dr⟩,⟨_,_,_,PySem.F.excBase_ValueError,x_ns⟩,⟨_,_,_,PySem.F.excBase_ValueError,x_np⟩,⟨_,_,_,PySem.F.excBase_ValueError,x_ke⟩,⟨x_cg1,x_cg2,x_cg3,x_cg4,x_cg5,x_cg6⟩,⟨x_cd1,x_cd2,x_cd3,x_cd4,x_cd5,x_cd6⟩,x_s1,x_s2,x_vg,x_vd,x_g0,x_d0,x_g1,x_d1,x_g2,x_d2,x_g3,x_d3,x_g4,x_d4,x_g5,x_d5,x_g6,x_d6,x_g7,x_d7,x_g8,x_d8,x_g9,x_d9,x_g10,x_d10,x_g11,x_d11,x_g12,x_d12,x_g13,x_d13⟩⟩⟩
theorem fin{l:PySem.W.OpenLaw}{w:World}{K:PySem.W.Frag}{mg:Str->Option Value}{t:jo}{fa c1 T1 c2 T2:Addr}{h:Heap}(KX:K.In h)(G:h.Ns mainGlobals mg)(h1:PySem.W.tabIn K "raised"=some (c1,T1))(h2:PySem.W.codeHdIn K c1 T1=true)(h3:PySem.W.tabIn K "put_in"=some (c2,T2))(h4:PySem.W.codeHdIn K c2 T2=true)(T:Txt K mg t)(hfa:mg "law"=some (.ref fa)):∃fd:FuncData,(∀(s:Shared)(v:Value),BindsTo s fd ⟨[v],[]⟩ [("_law_script",v)])/\∀base:Heap,wZ l.prog w K mg base b_ 193 fa fd ["_law_script"] (G1 K T1 T2):=by
 obtain⟨f,fd,F,m,b⟩:=T.Zx;have e:=hfa.symm.trans m;cases e;refine⟨fd,?_,λbase=>?_⟩;·obtain⟨oc,od,kV,doc,pm,an,cM,ct,BG,rfl,lk,wN⟩:=F.ex;exactλs v=> .of_eq rfl
 obtain⟨as,TK⟩:=T.Dv;have k1:=DF (P:=l.prog) (w:=w) T.DR T.M;have k5:=ig T.vI T.M k1 60;have k6:=AN (n:=60) T.A5 T.M k5;have k7:=DQ (P:=l.prog) (w:=w) T.Dn T.M;have p1:=AY (P:=l.prog) (w:=w) T.Bi T.M;have p2:=II (P:=l.prog) (w:=w) T.IX T.M;have p3:=C_ (P:=l.prog) (w:=w) T.CK T.M TK T.xj;have p4:=LW T.Kc T.M T.X.np p2 p1;have p5:=C0 T.Dt T.M p4;have y3:=iG T.wg T.M p2 100;have y4:=Jc (P:=l.prog) (w:=w) T.Ja T.M;have y5:=Jh T.IJ T.M T.X.gr y4 y3;have y6:=JA (P:=l.prog) (w:=w) T.IU T.M;have p6:=jZ T.yF T.M p4 p2 y6 100;have p7:=Jl (n:=100) T.Jd T.M (by decide) p6 y5;have y7:=iM (kc:=1) T.mE T.M p2 p3 y6 58;have y8:=Nw (Mf T.L0 KX G h1 h2) T.M y7;have y9:=iM (kc:=64) T.mE T.M p2 p3 y6 58;have ya:=Nf (Mf T.MI KX G h3 h4) T.M y8 y9 y5;have s1:=IW (P:=l.prog) (w:=w) T.JR T.M T.P9;have s0:=zT (P:=l.prog) (w:=w) T.zy T.M;have s2:=zJ T.z4 T.M ya s0;have s3:=Jf T.JF T.M T.X.ns p5 s1 p7 s2;have s4:=M6 T.MM T.M T.X.ns p5 s1 s3;have s5:=kJ T.zh T.M s1 p2 60;have s6:=NZ T.LK T.M T.X.dr s5 s3;have w1:=DJ (P:=l.prog) (w:=w) T.C2 T.M T.X;have l1:=C7 T.DC T.M T.X s3 s4 s6 w1;have n1:=AA (P:=l.prog) (w:=w) T.BM T.M;have n2:=wB T.wD T.M n1;have z1:=mv (P:=l.prog) (w:=w) T.A2 T.M 9;have z2:=AS (P:=l.prog) (w:=w) T.BN T.M;have z3:=Bp T.A0 T.M k7 z1 z2;exact Wz F T.M k7 n2 z3 z1 z2 k6 l1
theorem walk{l:PySem.W.OpenLaw}{q:Program}{loose:List Str}{XP:(Str->Option Value)->Heap->Prop}{YP:World->Heap->Prop}{d:DefRec}{K:Params->PySem.W.Frag}{c1 T1 c2 T2:Addr}(hn:l.most=some 63)(ZX:d.params.defaults=[])(hY:∀(w:World)(h:Heap),YP w h->(K w.params).In h)(h2:∀w:World,PySem.W.codeHdIn (K w.params) c1 T1=true)(h3:∀w:World,(K w.params).lookup T1=none)(h4:∀(w:World)(h:Heap),YP w h->h.get? T1=some (PySem.W.tabObj #[]))(h5:∀w:World,PySem.W.codeHdIn (K w.params) c2 T2=true)(h6:∀w:World,(K w.params).lookup T2=none)(h7:∀(w:World)(h:Heap),YP w h->h.get? T2=some (PySem.W.tabObj #[]))(yQ:T1≠T2)(F:∀(w:World)(mg:Str->Option Value)(fa:Addr)(h:Heap),(K w.params).In h->h.Ns mainGlobals mg->mg d.name=some (.ref fa)->∃fd:FuncData,(∀(s:Shared)(u:Value),BindsTo s fd ⟨[u],[]⟩ [("_law_script",u)])/\∀base:Heap,wZ l.prog w (K w.params) mg base b_ 193 fa fd ["_law_script"] (G1 (K w.params) T1 T2)):PySem.W.WalkO q loose XP YP l.row.toRowW d [] (λf vs=>PySem.call f vs):=by
 refine L4 (ts:=[(c1,T1, .tab BJ (rawInt Bl.line) (rawInt Bl.col)),(c2,T2, .tab yb (rawInt xl.line) (rawInt xl.col))]) (n:=63) (k:=193) (x:="_law_script") (sp:=λw=>G1 (K w.params) T1 T2) hn (by decide) ZX ⟨by decide,by decide,λ_=>rfl⟩ hY (λw h Y=>⟨λq hq=>?_,λq hq=>?_,λq hq=>?_,λq hq=>?_⟩) F λw H a ns hl hO hS=>⟨a,ns,rfl,hS,hl,⟨hO (c1,T1, .tab BJ (rawInt Bl.line) (rawInt Bl.col)) (by simp) (by simp[List.lookup]),hO (c2,T2, .tab yb (rawInt xl.line) (rawInt xl.col)) (by simp) ?_⟩,λ_=>rfl⟩
 ·rcases List.mem_cons.mp hq with rfl|hq;·exact h4 w h Y
  ·obtain rfl:=List.mem_singleton.mp hq;exact h7 w h Y
 ·rcases List.mem_cons.mp hq with rfl|hq;·exact h2 w
  ·obtain rfl:=List.mem_singleton.mp hq;exact h5 w
 ·rcases List.mem_cons.mp hq with rfl|hq;·exact h3 w
  ·obtain rfl:=List.mem_singleton.mp hq;exact h6 w
 ·rcases List.mem_cons.mp hq with rfl|hq;·exact⟨_,_,_,rfl⟩
  ·obtain rfl:=List.mem_singleton.mp hq;exact⟨_,_,_,rfl⟩
 ·have :(T2==T1)=false:=by simpa usingλz:T2=T1=>yQ z.symm
  simp[List.lookup,this]
end K26
end
section
namespace HD
open PySem PySem.W PySem.Calls PyProof.Rows
noncomputable def yO{α:Type}:List α->List α×List α|[]=>([],[])|x::r=>(x::(yO r).2,(yO r).1)
noncomputable def Su:Nat->List Obj->BT|0,_=> .nil|_+1,[]=> .nil|n+1,x::r=> .node x (Su n (yO r).1) (Su n (yO r).2)
noncomputable def mkT(l:List Obj):BT:=Su 14 l
noncomputable def i(n:Nat):Value:= .int (.ofNat n) 0
noncomputable def view(p:Program)(l:List Stmt):Program:={p with main:={p.main with body:=l}}
noncomputable abbrev Oh(β:Type):Type:=World->(OsState->β)×(OsState->β)
noncomputable def Ok{β:Type}(q:Oh β):Prop:=∀w,(q w).1=(q w).2
theorem gc{β:Type}{q q':Oh β}(e:q=q')(h:∀w,(q' w).1=(q' w).2):Ok q:=by subst e;exact h
theorem NY{β:Type}{q qf qt:Oh β}(r:String)(ef:(λw=>q (w.withFollow r false))=qf)(et:(λw=>q (w.withFollow r true))=qt)(hf:∀w,(qf w).1=(qf w).2)(ht:∀w,(qt w).1=(qt w).2):Ok q:=by subst ef et;exactλw=>byRow2 r (P:=λw=>(q w).1=(q w).2) hf ht w
section
variable(p:Program)(m:Nat)(ann:Option Value)
noncomputable def pre(n:Nat)(S S':World->OsState->Shared)(t t':Thread):Oh (Option (Shared×Thread)):=λw=>(λos=>topGo treeTable p w m ann n (S w os) t,λos=>some (S' w os,t'))
noncomputable def blk(n:Nat)(S:World->OsState->Shared)(S':World->OsState->SharedT)(b:List Stmt)(env:Env)(c:Code)(p1 p2:Pos)(B:List Frame):Oh (Option (Flow×Shared×Code×Pos)):=λw=>(λos=>segRun treeTable p w m ann 1 n (S w os) (blockOf b env c p1 B),λos=>some (Flow.next,(S' w os).abs,c,p2))
noncomputable def seg(n:Nat)(S S':World->OsState->SharedT)(l:List Stmt)(env:Env)(c:Code)(p1 p2:Pos)(B:List Frame):Oh (Option (Flow×SharedT×Code×Pos)):=λw=>(λos=>segRunT treeTable p w m ann 1 n (S w os) (piecesOf l env c p1 B),λos=>some (Flow.next,S' w os,c,p2))
noncomputable def fin(n:Nat)(S:World->OsState->SharedT)(S':World->OsState->Shared)(t:Thread):Oh (Option Shared):=λw=>(λos=>topRun treeTable p w m ann n (S w os).abs t,λos=>some (S' w os))
variable{p:Program}{m:Nat}{ann:Option Value}
noncomputable def Goes(p:Program)(m:Nat)(ann:Option Value)(R:World->OsState->Shared)(n:Nat)(S:World->OsState->Shared)(t:Thread):Prop:=∀w os,topRun treeTable p w m ann n (S w os) t=some (R w os)
noncomputable def O7(S:World->OsState->SharedT):World->OsState->Shared:=λw os=>(S w os).abs
theorem Xv{n:Nat}{S:World->OsState->SharedT}{R:World->OsState->Shared}{env:Env}{c:Code}{pos q:Pos}(h:Ok (fin p m ann n S R ⟨doneF .next,c,pos,[topFrame q]⟩)):Goes p m ann R n (O7 S) (restOf [] env c pos [topFrame q]):=λw os=>piece_nil (congrFun (h w) os)
theorem dC{n N:Nat}{S S':World->OsState->SharedT}{R:World->OsState->Shared}{l rest:List Stmt}{env:Env}{c:Code}{p1 p2 q:Pos}(h:Ok (seg p m ann n S S' l env c p1 p2 [topFrame q]))(k:Goes p m ann R N (O7 S') (restOf rest env c p2 [topFrame q])):Goes p m ann R (n+N) (O7 S) (restOf (l++rest) env c p1 [topFrame q]):=λw os=>piece_app (segRun_of (congrFun (h w) os)) (k w os)
theorem W_{n N:Nat}{S:World->OsState->Shared}{S':World->OsState->SharedT}{R:World->OsState->Shared}{b b':List Stmt}{env:Env}{p1 p2 q:Pos}(e:b=b')(h:Ok (blk p m ann n S S' b env (.body b env) p1 p2 [topFrame q]))(k:Goes p m ann R N (O7 S') (restOf b' env (.body b env) p2 [topFrame q])):Goes p m ann R (n+N) S ⟨denote treeTable (.body b env), .body b env,p1,[topFrame q]⟩:=λw os=>by subst e;exact piece_block (congrFun (h w) os) (k w os)
theorem Z_{n N:Nat}{S S' R:World->OsState->Shared}{t t':Thread}(h:Ok (pre p m ann n S S' t t'))(k:Goes p m ann R N S' t'):Goes p m ann R (n+N) S t:=λw os=>go_top (congrFun (h w) os) (k w os)
end
noncomputable def sz(m:Nat)(ann:Option Value):Oh (Bool×Nat×Option Value):=λw=>(λ_=>((boot_heap w.params).isNs mainGlobals&&(Array.mk []:Array GenState).size==0,(boot_heap w.params).objs.size,(boot_heap w.params).nsMap mainGlobals "__annotations__"),λ_=>(true,m,ann))
noncomputable def Zo(H:Params->Heap)(d:Drawn)(k:Nat):World->OsState->Shared:=λw os=>⟨H w.params,Array.mk [],d,k,os⟩
noncomputable def la(p:Program)(H₁:Params->Heap)(d:Drawn)(k:Nat):Oh Bool:=λw=>(λos=>(staticsOk (importedModules p.main.body) (boot_heap w.params) (H₁ w.params)&&namesBound p (H₁ w.params)&&gensDone ⟨H₁ w.params,Array.mk [],d,k,os⟩&&laidKept (boot_heap w.params) (H₁ w.params)),λ_=>true)
noncomputable def lb(p q:Program)(loose:List Str)(Xt:Shared->Bool)(H₁:Params->Heap)(d:Drawn)(k:Nat):=λ(w:World)=>((λ(os:OsState)=>openSeen q loose (importedModules p.main.body) Xt true ⟨H₁ w.params,Array.mk [],d,k,os⟩),(λ(_:OsState)=>openGood q loose))
noncomputable def lc(H:Hook)(H₁:Params->Heap)(d:Drawn)(k:Nat):Oh H.α:=λw=>(λos=>H.obs ⟨H₁ w.params,Array.mk [],d,k,os⟩,λ_=>H.val w)
theorem left{p q:Program}{loose:List Str}{Xt:Shared->Bool}{H:Hook}{N m M:Nat}{ann:Option Value}{H₁:Params->Heap}{d:Drawn}{k:Nat}(e:opening p=plainProg p.main.scope.names)(hN:Nat.ble 600 N=true)(f:∀s,fenceModules? p s=some s)(size:Ok (sz m ann))(run:Goes p m ann (Zo H₁ d k) M (Zo boot_heap boot_drawn boot_toks) (topStub p))(le:Nat.ble M N=true)(ha:Ok (la p H₁ d k))(hb:Ok (lb p q loose Xt H₁ d k))(hc:Ok (lc H H₁ d k)):LeftO p q loose Xt H.obs H.val N:=LeftO.of_pieces (H₀:=boot_heap) (H₁:=H₁) (boot_open e hN f) (λw=>congrFun (size w) default) run le λw=>funext λos=>looks_pair (congrFun (ha w) os) (looks_pair (congrFun (hb w) os) (congrFun (hc w) os))
end HD
end
section
namespace K26
open PySem PySem.W PySem.Calls PyProof.Rows
noncomputable abbrev pw:Program:=PySem.Challenge.pw_keeper_k26_near_the_bounds
noncomputable def ht(i:Nat):Stmt:=pw.main.body.getD i (.Pass ⟨0,0,0,0⟩)
noncomputable def x0:Str:= .ofString "__name__"
noncomputable def x1:Str:= .ofString "builtins"
noncomputable def x2:Str:= .ofString "__doc__"
noncomputable def x3:Str:= .ofString "__package__"
noncomputable def x4:Str:= .ofString "__loader__"
noncomputable def x5:Str:= .ofString "__spec__"
noncomputable def x6:Str:= .ofString "__build_class__"
noncomputable def x7:Str:= .ofString "__import__"
noncomputable def x8:Str:= .ofString "abs"
noncomputable def x9:Str:= .ofString "all"
noncomputable def x13:Str:= .ofString "breakpoint"
noncomputable def ZN:Str:= .ofString "max"
noncomputable def x38:Str:= .ofString "next"
noncomputable def Wa:Str:= .ofString "__main__"
noncomputable def cC:Str:= .ofString "__annotations__"
noncomputable def cA:Str:= .ofString "__builtins__"
noncomputable def cB:Str:= .ofString "__file__"
noncomputable def aw:Str:= .ofString "/claim/cut.py"
noncomputable def cD:Str:= .ofString "__cached__"
noncomputable def Wj:Str:= .ofString "<module>"
noncomputable def bY:Str:= .ofString "_wall"
noncomputable def ab4:Str:= .ofString "k"
noncomputable def bf:Str:= .ofString "keeper.errors"
noncomputable def aL:Str:= .ofString "KeeperError"
noncomputable def bC:Str:= .ofString "__module__"
noncomputable def dF:Str:= .ofString "__qualname__"
noncomputable def bE:Str:= .ofString "__firstlineno__"
noncomputable def aJ:Str:= .ofString "small_name"
noncomputable def bD:Str:= .ofString "__static_attributes__"
noncomputable def js:Str:= .ofString "self"
noncomputable def TM:Str:= .ofString "KeeperError.small_name"
noncomputable def Sl:Str:= .ofString "__weakref__"
noncomputable def bZ:Str:= .ofString "Great"
noncomputable def Vi:Str:= .ofString "Great.small_name"
noncomputable def ck:Str:= .ofString "NoPlace"
noncomputable def U9:Str:= .ofString "NoPlace.small_name"
noncomputable def cy:Str:= .ofString "NoStep"
noncomputable def U7:Str:= .ofString "NoStep.small_name"
noncomputable def cG:Str:= .ofString "Dry"
noncomputable def Sj:Str:= .ofString "Dry.small_name"
noncomputable def cK:Str:= .ofString "NoVariable"
noncomputable def Si:Str:= .ofString "NoVariable.small_name"
noncomputable def cO:Str:= .ofString "NoName"
noncomputable def UR:Str:= .ofString "NoName.small_name"
noncomputable def c9:Str:= .ofString "NotAll"
noncomputable def U_:Str:= .ofString "NotAll.small_name"
noncomputable def dy:Str:= .ofString "NotSome"
noncomputable def Uy:Str:= .ofString "NotSome.small_name"
noncomputable def dQ:Str:= .ofString "NotSame"
noncomputable def SQ:Str:= .ofString "NotSame.small_name"
noncomputable def en:Str:= .ofString "Unlike"
noncomputable def Tu:Str:= .ofString "Unlike.small_name"
noncomputable def eL:Str:= .ofString "NoText"
noncomputable def SF:Str:= .ofString "NoText.small_name"
noncomputable def fe:Str:= .ofString "NoWord"
noncomputable def R8:Str:= .ofString "NoWord.small_name"
noncomputable def fP:Str:= .ofString "TwiceTold"
noncomputable def UZ:Str:= .ofString "TwiceTold.small_name"
noncomputable def gu:Str:= .ofString "NotClosed"
noncomputable def Ve:Str:= .ofString "NotClosed.small_name"
noncomputable def zM:Str:= .ofString "keeper.things"
noncomputable def nJ:Str:= .ofString "MOST_KNOTS"
noncomputable def nE:Str:= .ofString "MOST_DEEP"
noncomputable def nD:Str:= .ofString "MOST_VARIABLE"
noncomputable def wz:Str:= .ofString "KIDS_DUE"
noncomputable def XG:Str:= .ofString "nat"
noncomputable def ZK:Str:= .ofString "none"
noncomputable def O9:Str:= .ofString "some"
noncomputable def YU:Str:= .ofString "same"
noncomputable def ZI:Str:= .ofString "var"
noncomputable def IT:Str:= .ofString "fun"
noncomputable def Ox:Str:= .ofString "app"
noncomputable def OL:Str:= .ofString "zero"
noncomputable def IL:Str:= .ofString "rec"
noncomputable def PD:Str:= .ofString "like"
noncomputable def IB:Str:= .ofString "carry"
noncomputable def Z7:Str:= .ofString "never"
noncomputable def OW:Str:= .ofString "pair"
noncomputable def Mv:Str:= .ofString "first"
noncomputable def Nn:Str:= .ofString "second"
noncomputable def OX:Str:= .ofString "name"
noncomputable def u4:Str:= .ofString "kind"
noncomputable def iN:Str:= .ofString "term"
noncomputable def Cr:Str:= .ofString "BINDER_OVER"
noncomputable def lx:Str:= .ofString "is_number"
noncomputable def aaz:Str:= .ofString "value"
noncomputable def kY:Str:= .ofString "is_vast"
noncomputable def kh:Str:= .ofString "kids_of"
noncomputable def jf:Str:= .ofString "thing"
noncomputable def lj:Str:= .ofString "binds_of"
noncomputable def jN:Str:= .ofString "top_variable"
noncomputable def kL:Str:= .ofString "bounded"
noncomputable def ly:Str:= .ofString "rebuilt"
noncomputable def SG:Str:= .ofString "kids"
noncomputable def MY:Str:= .ofString "keeper.places"
noncomputable def jO:Str:= .ofString "kid_at"
noncomputable def OF:Str:= .ofString "number"
noncomputable def kB:Str:= .ofString "at_place"
noncomputable def L9:Str:= .ofString "place"
noncomputable def Pr:Str:= .ofString "here"
noncomputable def km:Str:= .ofString "changed_at"
noncomputable def Yk:Str:= .ofString "new"
noncomputable def Zn:Str:= .ofString "kid"
noncomputable def m7:Str:= .ofString "with_at"
noncomputable def Tj:Str:= .ofString "keeper.putting"
noncomputable def nB:Str:= .ofString "with_free"
noncomputable def ni:Str:= .ofString "raised"
noncomputable def Xz:Str:= .ofString "by"
noncomputable def ZL:Str:= .ofString "low"
noncomputable def Wy:Str:= .ofString "change"
noncomputable def nF:Str:= .ofString "put_in"
noncomputable def Xs:Str:= .ofString "other"
noncomputable def Zy:Str:= .ofString "at"
noncomputable def Iz:Str:= .ofString "keeper.steps"
noncomputable def IS:Str:= .ofString "RULES"
noncomputable def mZ:Str:= .ofString "rule_of"
noncomputable def IE:Str:= .ofString "book"
noncomputable def aaT:Str:= .ofString "part"
noncomputable def acj:Str:= .ofString "word"
noncomputable def Nv:Str:= .ofString "rule"
noncomputable def nC:Str:= .ofString "after_next"
noncomputable def m5:Str:= .ofString "after_rule"
noncomputable def nK:Str:= .ofString "stepped"
noncomputable def xg:Str:= .ofString "first_step"
noncomputable def Zf:Str:= .ofString "step"
noncomputable def Xb:Str:= .ofString "keeper.normal"
noncomputable def wI:Str:= .ofString "normal"
noncomputable def aaS:Str:= .ofString "fuel"
noncomputable def Xd:Str:= .ofString "log"
noncomputable def wX:Str:= .ofString "walked"
noncomputable def ll:Str:= .ofString "law_keeper_k26_near_the_bounds"
noncomputable def wC:Str:= .ofString "_law_draw"
noncomputable def Ux:Str:= .ofString "_law_script"
noncomputable def UJ:Str:= .ofString "_law_tape"
noncomputable def OP:Str:= .ofString "_law_many"
noncomputable def abF:Str:= .ofString "_law_seed"
noncomputable def acq:Str:= .ofString "_law_cell"
noncomputable def wQ:Str:= .ofString "_law_measured"
noncomputable def IG:Str:= .ofString "_law_thing"
noncomputable def aas:Str:= .ofString "_law_knots"
noncomputable def YL:Str:= .ofString "_law_deep"
noncomputable def abI:Str:= .ofString "_law_most"
noncomputable def abS:Str:= .ofString "_law_kid"
noncomputable def Wt:Str:= .ofString "_law_told_here"
noncomputable def wJ:Str:= .ofString "_law_great"
noncomputable def wG:Str:= .ofString "_law_kids"
noncomputable def wK:Str:= .ofString "_law_word"
noncomputable def W0:Str:= .ofString "_law_e"
noncomputable def abZ:Str:= .ofString "_law_found"
noncomputable def acz:Str:= .ofString "_law_later"
noncomputable def wA:Str:= .ofString "_law_sized"
noncomputable def wW:Str:= .ofString "_law_nexts"
noncomputable def acw:Str:= .ofString "_law_k"
noncomputable def wU:Str:= .ofString "_law_named"
noncomputable def U2:Str:= .ofString "_law_word_here"
noncomputable def xi:Str:= .ofString "_law_word_by"
noncomputable def Ci:Str:= .ofString "_law_built"
noncomputable def UG:Str:= .ofString "_law_way"
noncomputable def aax:Str:= .ofString "_law_less"
noncomputable def Vh:Str:= .ofString "_law_book"
noncomputable def aa7:Str:= .ofString "_law_step"
noncomputable def aaZ:Str:= .ofString "_law_base"
noncomputable def aam:Str:= .ofString "_law_below"
noncomputable def Y1:Str:= .ofString "_law_one"
noncomputable def aa8:Str:= .ofString "_law_here"
noncomputable def ab0:Str:= .ofString "_law_number"
noncomputable def abC:Str:= .ofString "_law_part"
noncomputable def Cn:Str:= .ofString "_law_told"
noncomputable def ZJ:Str:= .ofString "_law_place"
noncomputable def YX:Str:= .ofString "_law_rule"
noncomputable def abJ:Str:= .ofString "_law_fuel"
noncomputable def Cw:Str:= .ofString "law"
noncomputable def aa4:Str:= .ofString "_law_made"
noncomputable def ab5:Str:= .ofString "_law_side"
noncomputable def aca:Str:= .ofString "_law_due"
noncomputable def hE:Env:={scope:=pw.main.scope,locals:=mainNs,globals:=mainNs,cells:=[],code:=(.ref 13),frame:=some (nat_lit 14)}
noncomputable def hC:Code:= .body (behindTheImports pw) hE
noncomputable def hB:List Frame:=[topFrame ⟨0,0,0,0⟩]
noncomputable abbrev S0:World->OsState->Shared:=HD.Zo boot_heap boot_drawn boot_toks
noncomputable def L_(P:Params):Obj:=⟨(.type "tuple"),none,(.seq #[] 0),#[]⟩
noncomputable def QV(P:Params):Obj:=⟨.none,none,(.fields #[]),#[]⟩
noncomputable def Kt(P:Params):Obj:=⟨(.type "code"),none,(.fields #[(.str Wj 182),(.str Wj 183),(.str aw 184),(HD.i 1),(HD.i 0),(HD.i 0),(HD.i 0),(HD.i 0),(.ref 11),(.bool false),(HD.i 181),(.ref 12), .none, .none, .none, .none,(HD.i 185),(HD.i 1),(.str aw 186)]),#[]⟩
noncomputable def Kq(P:Params):Obj:=⟨(.type "frame"),none, .plain,#[(some (.ref 13)),(some (.ref 3)),(some (.ref 3)),none,(some (.str Wa 164)),none,(some (.ref 0))]⟩
noncomputable def ab3(P:Params)(r:List (Obj)):List (Obj):=PySem.W.boot_o_0 P::PySem.W.boot_o_1 P::PySem.W.boot_o_2 P::PySem.W.boot_o_3 P::PySem.W.boot_o_4 P::PySem.W.boot_o_5 P::PySem.W.boot_o_6 P::PySem.W.boot_o_7 P::PySem.W.boot_o_8 P::PySem.W.boot_o_9 P::PySem.W.boot_o_10 P::L_ P::r
noncomputable def aaF(P:Params)(r:List (Obj)):List (Obj):=QV P::Kt P::Kq P::r
noncomputable def Ha(P:Params):Heap:=⟨Array.mk (ab3 P (aaF P [])),⟨[],[],[],0,[],[],false,#[],[],0,false,false,false,(.ofNat 0),[(.ofNat 2000),(.ofNat 10),(.ofNat 10)],false,0,true,[],[],0,false⟩⟩
noncomputable def da:Drawn:=⟨0,0,0,0⟩
noncomputable def ka:Nat:=nat_lit 187
noncomputable abbrev Sa:World->OsState->Shared:=HD.Zo Ha da ka
noncomputable def qa(w:World):(OsState->Option (Shared×Thread))×(OsState->Option (Shared×Thread)):=(λos=>topGo treeTable pw w (nat_lit 11) (some (.ref 6)) (nat_lit 12) (S0 w os) (topStub pw),λos=>some (Sa w os,Thread.mk (denote treeTable hC) hC ⟨0,0,0,0⟩ hB))
theorem WN:HD.pre pw (nat_lit 11) (some (.ref 6)) (nat_lit 12) S0 Sa (topStub pw) (Thread.mk (denote treeTable hC) hC ⟨0,0,0,0⟩ hB)=qa:=by kernel_rfl
name_quick Q0 for qa by WN
theorem ia(w:World):(Fast.Q0 w).1=(Fast.Q0 w).2:=by kernel_rfl
theorem ha:HD.Ok (HD.pre pw (nat_lit 11) (some (.ref 6)) (nat_lit 12) S0 Sa (topStub pw) (Thread.mk (denote treeTable hC) hC ⟨0,0,0,0⟩ hB)):=HD.gc Fast.Q0_eq ia
noncomputable def abv(P:Params)(r:List (Obj)):List (Obj):=PySem.W.boot_o_0 P::PySem.W.boot_o_1 P::PySem.W.boot_o_2 P::PySem.W.boot_o_3 P::PySem.W.boot_o_4 P::PySem.W.boot_o_5 P::PySem.W.boot_o_6 P::PySem.W.boot_o_7 P::PySem.W.boot_o_8 P::PySem.W.boot_o_9 P::PySem.W.boot_o_10 P::L_ P::r
noncomputable def abz(P:Params)(r:List (Obj)):List (Obj):=QV P::Kt P::Kq P::r
noncomputable def Tb(P:Params):BT:=HD.mkT (abv P (abz P []))
noncomputable def lfb:Life:=⟨[],[],[],0,[],[],false,#[],[],0,false,false,false,(.ofNat 0),[(.ofNat 2000),(.ofNat 10),(.ofNat 10)],false,0,true,[],[],0,false⟩
noncomputable abbrev Sb(w:World)(os:OsState):SharedT:=⟨Tb w.params,nat_lit 15,lfb,Array.mk [],⟨0,0,0,0⟩,nat_lit 187,os⟩
noncomputable def qb(w:World):(OsState->Option (Flow×Shared×Code×Pos))×(OsState->Option (Flow×Shared×Code×Pos)):=(λos=>segRun treeTable pw w (nat_lit 11) (some (.ref 6)) (nat_lit 1) (nat_lit 1) (Sa w os) (blockOf (behindTheImports pw) hE hC ⟨0,0,0,0⟩ hB),λos=>some (Flow.next,(Sb w os).abs,hC,⟨0,0,0,0⟩))
theorem Yi:HD.blk pw (nat_lit 11) (some (.ref 6)) (nat_lit 1) Sa Sb (behindTheImports pw) hE hC ⟨0,0,0,0⟩ ⟨0,0,0,0⟩ hB=qb:=by kernel_rfl
name_quick Qz for qb by Yi
theorem ib(w:World):(Fast.Qz w).1=(Fast.Qz w).2:=by kernel_rfl
theorem hb:HD.Ok (HD.blk pw (nat_lit 11) (some (.ref 6)) (nat_lit 1) Sa Sb (behindTheImports pw) hE hC ⟨0,0,0,0⟩ ⟨0,0,0,0⟩ hB):=HD.gc Fast.Qz_eq ib
noncomputable def acy(P:Params):Obj:=⟨(.type "dict"),none,(.dict #[⟨(PyData.keyHash P x0),(.str x0 165),(.str bf 194)⟩,⟨(PyData.keyHash P x2),(.str x2 166), .none⟩,⟨(PyData.keyHash P x3),(.str x3 167), .none⟩,⟨(PyData.keyHash P x4),(.str x4 168),(.builtin "__main__.__loader__#opaque")⟩,⟨(PyData.keyHash P x5),(.str x5 169), .none⟩,⟨(PyData.keyHash P cC),(.str cC 170),(.ref 6)⟩,⟨(PyData.keyHash P cA),(.str cA 171),(.ref 4)⟩,⟨(PyData.keyHash P cB),(.str cB 173),(.str aw 172)⟩,⟨(PyData.keyHash P cD),(.str cD 174), .none⟩,⟨(PyData.keyHash P bY),(.str bY 193),(.ref 21)⟩,⟨(PyData.keyHash P aL),(.str aL 220),(.ref 38)⟩] 11),#[]⟩
noncomputable def aad(P:Params):Obj:=⟨.none,none,(.fields #[(HD.i 1),(HD.i 0),(.ref 20),(HD.i 5),(HD.i 0),(.ref 27)]),#[]⟩
noncomputable def El(P:Params):Obj:=⟨(.type "tuple"),none,(.seq #[] 0),#[]⟩
noncomputable def Qt(P:Params):Obj:=⟨.none,none,(.fields #[]),#[]⟩
noncomputable def HQ(P:Params):Obj:=⟨(.type "tuple"),none,(.seq #[(.str ab4 190)] 0),#[]⟩
noncomputable def GL(P:Params):Obj:=⟨(.type "tuple"),none,(.seq #[] 0),#[]⟩
noncomputable def QO(P:Params):Obj:=⟨.none,none,(.func ⟨bY,bY,L2.ak (ht 0), .stmts (L2.ai (ht 0)),L2.ae (ht 0),0,[], .none, .none, .none, .none,none, .none, .none,0⟩),#[]⟩
noncomputable def Ff(P:Params):Obj:=⟨(.type "code"),none,(.fields #[(.str bY 187),(.str bY 188),(.str aw 189),(HD.i 1),(HD.i 1),(HD.i 0),(HD.i 0),(HD.i 3),(.ref 15),(.bool true),(HD.i 181),(.ref 16), .none,(.ref 17),(.ref 18),(.ref 19),(HD.i 191),(HD.i 1),(.str aw 192)]),#[]⟩
noncomputable def Ip(P:Params):Obj:=⟨(.type "function"),none,(.func ⟨bY,bY,L2.ak (ht 0), .stmts (L2.ai (ht 0)),L2.ae (ht 0),3,[], .none, .none, .none,(.str Wa 164),none,(.ref 20), .none,0⟩),#[]⟩
noncomputable def HK(P:Params):Obj:=⟨(.type "tuple"),none,(.seq #[(.type "ValueError")] 0),#[]⟩
noncomputable def Rp(P:Params):Obj:=⟨(.type "builtin_function_or_method"),none,(.fields #[(.builtin "type.__prepare__"),(.type "type")]),#[]⟩
noncomputable def Rm(P:Params):Obj:=⟨(.type "dict"),none,(.dict #[⟨(PyData.keyHash P bC),(.str bC 203),(.str bf 194)⟩,⟨(PyData.keyHash P dF),(.str dF 205),(.str aL 204)⟩,⟨(PyData.keyHash P bE),(.str bE 207),(.int (.ofNat 5) 206)⟩,⟨(PyData.keyHash P aJ),(.str aJ 214),(.ref 35)⟩,⟨(PyData.keyHash P bD),(.str bD 215),(.ref 36)⟩] 5),#[]⟩
noncomputable def Rk(P:Params):Obj:=⟨(.type "tuple"),none,(.seq #[] 0),#[]⟩
noncomputable def RO(P:Params):Obj:=⟨.none,none,(.fields #[(HD.i 7),(HD.i 4),(.ref 34)]),#[]⟩
noncomputable def Rb(P:Params):Obj:=⟨(.type "code"),none,(.fields #[(.str aL 198),(.str aL 199),(.str aw 200),(HD.i 5),(HD.i 0),(HD.i 0),(HD.i 0),(HD.i 0),(.ref 25),(.bool false),(HD.i 181),(.ref 26), .none, .none, .none, .none,(HD.i 201),(HD.i 5),(.str aw 202)]),#[]⟩
noncomputable def Rx(P:Params):Obj:=⟨(.type "frame"),none, .plain,#[(some (.ref 27)),(some (.ref 3)),(some (.ref 24)),none,(some (.str bf 194)),none,(some (.ref 0))]⟩
noncomputable def DV(P:Params):Obj:=⟨(.type "tuple"),none,(.seq #[] 0),#[]⟩
noncomputable def Q5(P:Params):Obj:=⟨.none,none,(.fields #[]),#[]⟩
noncomputable def FT(P:Params):Obj:=⟨(.type "tuple"),none,(.seq #[(.str js 211)] 0),#[]⟩
noncomputable def FQ(P:Params):Obj:=⟨(.type "tuple"),none,(.seq #[] 0),#[]⟩
noncomputable def Rj(P:Params):Obj:=⟨.none,none,(.func ⟨aJ,TM,L2.ak (L2.inClass (ht 2) 0), .stmts (L2.ai (L2.inClass (ht 2) 0)),L2.ae (L2.inClass (ht 2) 0),0,[], .none, .none, .none, .none,none, .none, .none,0⟩),#[]⟩
noncomputable def FN(P:Params):Obj:=⟨(.type "code"),none,(.fields #[(.str aJ 208),(.str TM 209),(.str aw 210),(HD.i 7),(HD.i 1),(HD.i 0),(HD.i 0),(HD.i 3),(.ref 29),(.bool true),(HD.i 181),(.ref 30), .none,(.ref 31),(.ref 32),(.ref 33),(HD.i 212),(HD.i 7),(.str aw 213)]),#[]⟩
noncomputable def En(P:Params):Obj:=⟨(.type "function"),none,(.func ⟨aJ,TM,L2.ak (L2.inClass (ht 2) 0), .stmts (L2.ai (L2.inClass (ht 2) 0)),L2.ae (L2.inClass (ht 2) 0),3,[], .none, .none, .none,(.str bf 194),none,(.ref 34), .none,0⟩),#[]⟩
noncomputable def G5(P:Params):Obj:=⟨(.type "tuple"),none,(.seq #[] 0),#[]⟩
noncomputable def HV(P:Params):Obj:=⟨(.type "dict"),none,(.dict #[⟨(PyData.keyHash P bC),(.str bC 203),(.str bf 194)⟩,⟨(PyData.keyHash P bE),(.str bE 207),(.int (.ofNat 5) 206)⟩,⟨(PyData.keyHash P aJ),(.str aJ 214),(.ref 35)⟩,⟨(PyData.keyHash P bD),(.str bD 215),(.ref 36)⟩,⟨(PyData.keyHash P Sl),(.str Sl 217),(.ref 39)⟩,⟨(PyData.keyHash P x2),(.str x2 218), .none⟩] 3),#[]⟩
noncomputable def Y4(P:Params):Obj:=⟨(.type "type"),none,(.cls ⟨aL,[(.type "ValueError")],[(.ref 38),(.type "ValueError"),(.type "Exception"),(.type "BaseException"),(.type "object")],37,aL,true,[],[],false,none,false⟩),#[(some (.ref 22)),none,(some (.str aL 196)),(some (.str aL 204)),(some (.builtin "ValueError.__new__")),(some (.bool true))]⟩
noncomputable def Et(P:Params):Obj:=⟨(.type "getset_descriptor"),none,(.fields #[(.str Sl 216),(.ref 38),(.builtin "ExceptionGroup.__weakref__"), .none]),#[]⟩
noncomputable def Qx(P:Params):Obj:=⟨(.type "super"),none,(.fields #[(.ref 38),(.ref 38),(.ref 38)]),#[]⟩
noncomputable def QL(P:Params):Obj:=⟨(.type "builtin_function_or_method"),none,(.fields #[(.builtin "object.__init_subclass__"),(.ref 38)]),#[]⟩
noncomputable def g1:List Stmt:=[ht 0,ht 1,ht 2]
noncomputable def T1(P:Params):BT:=((((((((((((((((((((((((((((((Tb P).ins (nat_lit 3) (acy P)).ins (nat_lit 12) (aad P)).ins (nat_lit 15) (El P)).ins (nat_lit 16) (Qt P)).ins (nat_lit 17) (HQ P)).ins (nat_lit 18) (GL P)).ins (nat_lit 19) (QO P)).ins (nat_lit 20) (Ff P)).ins (nat_lit 21) (Ip P)).ins (nat_lit 22) (HK P)).ins (nat_lit 23) (Rp P)).ins (nat_lit 24) (Rm P)).ins (nat_lit 25) (Rk P)).ins (nat_lit 26) (RO P)).ins (nat_lit 27) (Rb P)).ins (nat_lit 28) (Rx P)).ins (nat_lit 29) (DV P)).ins (nat_lit 30) (Q5 P)).ins (nat_lit 31) (FT P)).ins (nat_lit 32) (FQ P)).ins (nat_lit 33) (Rj P)).ins (nat_lit 34) (FN P)).ins (nat_lit 35) (En P)).ins (nat_lit 36) (G5 P)).ins (nat_lit 37) (HV P)).ins (nat_lit 38) (Y4 P)).ins (nat_lit 39) (Et P)).ins (nat_lit 40) (Qx P)).ins (nat_lit 41) (QL P))
noncomputable def lf1:Life:=⟨[],[],[],0,[],[],false,#[],[],0,false,false,false,(.ofNat 0),[(.ofNat 2000),(.ofNat 10),(.ofNat 10)],false,0,true,[],[],0,false⟩
noncomputable abbrev S1(w:World)(os:OsState):SharedT:=⟨T1 w.params,nat_lit 42,lf1,Array.mk [],⟨0,0,0,0⟩,nat_lit 221,os⟩
noncomputable def q1(w:World):(OsState->Option (Flow×SharedT×Code×Pos))×(OsState->Option (Flow×SharedT×Code×Pos)):=(λos=>segRunT treeTable pw w (nat_lit 11) (some (.ref 6)) (nat_lit 1) (nat_lit 255) (Sb w os) (piecesOf g1 hE hC ⟨0,0,0,0⟩ hB),λos=>some (Flow.next,S1 w os,hC,⟨5,0,8,16⟩))
theorem Wq:HD.seg pw (nat_lit 11) (some (.ref 6)) (nat_lit 255) Sb S1 g1 hE hC ⟨0,0,0,0⟩ ⟨5,0,8,16⟩ hB=q1:=by kernel_rfl
name_quick Qp for q1 by Wq
theorem i1(w:World):(Fast.Qp w).1=(Fast.Qp w).2:=by kernel_rfl
theorem h1:HD.Ok (HD.seg pw (nat_lit 11) (some (.ref 6)) (nat_lit 255) Sb S1 g1 hE hC ⟨0,0,0,0⟩ ⟨5,0,8,16⟩ hB):=HD.gc Fast.Qp_eq i1
noncomputable def ab6(P:Params):Obj:=⟨(.type "dict"),none,(.dict #[⟨(PyData.keyHash P x0),(.str x0 165),(.str bf 194)⟩,⟨(PyData.keyHash P x2),(.str x2 166), .none⟩,⟨(PyData.keyHash P x3),(.str x3 167), .none⟩,⟨(PyData.keyHash P x4),(.str x4 168),(.builtin "__main__.__loader__#opaque")⟩,⟨(PyData.keyHash P x5),(.str x5 169), .none⟩,⟨(PyData.keyHash P cC),(.str cC 170),(.ref 6)⟩,⟨(PyData.keyHash P cA),(.str cA 171),(.ref 4)⟩,⟨(PyData.keyHash P cB),(.str cB 173),(.str aw 172)⟩,⟨(PyData.keyHash P cD),(.str cD 174), .none⟩,⟨(PyData.keyHash P bY),(.str bY 193),(.ref 21)⟩,⟨(PyData.keyHash P aL),(.str aL 220),(.ref 38)⟩,⟨(PyData.keyHash P bZ),(.str bZ 243),(.ref 58)⟩] 12),#[]⟩
noncomputable def V_(P:Params):Obj:=⟨.none,none,(.fields #[(HD.i 1),(HD.i 0),(.ref 20),(HD.i 5),(HD.i 0),(.ref 27),(HD.i 9),(HD.i 0),(.ref 47)]),#[]⟩
noncomputable def XN(P:Params):Obj:=⟨(.type "type"),none,(.cls ⟨aL,[(.type "ValueError")],[(.ref 38),(.type "ValueError"),(.type "Exception"),(.type "BaseException"),(.type "object")],37,aL,true,[],[(.ref 58)],false,none,false⟩),#[(some (.ref 22)),none,(some (.str aL 196)),(some (.str aL 204)),(some (.builtin "ValueError.__new__")),(some (.bool true))]⟩
noncomputable def EH(P:Params):Obj:=⟨(.type "tuple"),none,(.seq #[(.ref 38)] 0),#[]⟩
noncomputable def Q3(P:Params):Obj:=⟨(.type "builtin_function_or_method"),none,(.fields #[(.builtin "type.__prepare__"),(.type "type")]),#[]⟩
noncomputable def QF(P:Params):Obj:=⟨(.type "dict"),none,(.dict #[⟨(PyData.keyHash P bC),(.str bC 228),(.str bf 194)⟩,⟨(PyData.keyHash P dF),(.str dF 230),(.str bZ 229)⟩,⟨(PyData.keyHash P bE),(.str bE 232),(.int (.ofNat 9) 231)⟩,⟨(PyData.keyHash P aJ),(.str aJ 239),(.ref 55)⟩,⟨(PyData.keyHash P bD),(.str bD 240),(.ref 56)⟩] 5),#[]⟩
noncomputable def RF(P:Params):Obj:=⟨(.type "tuple"),none,(.seq #[] 0),#[]⟩
noncomputable def RA(P:Params):Obj:=⟨.none,none,(.fields #[(HD.i 11),(HD.i 4),(.ref 54)]),#[]⟩
noncomputable def RI(P:Params):Obj:=⟨(.type "code"),none,(.fields #[(.str bZ 223),(.str bZ 224),(.str aw 225),(HD.i 9),(HD.i 0),(HD.i 0),(HD.i 0),(HD.i 0),(.ref 45),(.bool false),(HD.i 181),(.ref 46), .none, .none, .none, .none,(HD.i 226),(HD.i 9),(.str aw 227)]),#[]⟩
noncomputable def Qm(P:Params):Obj:=⟨(.type "frame"),none, .plain,#[(some (.ref 47)),(some (.ref 3)),(some (.ref 44)),none,(some (.str bf 194)),none,(some (.ref 0))]⟩
noncomputable def EI(P:Params):Obj:=⟨(.type "tuple"),none,(.seq #[] 0),#[]⟩
noncomputable def QX(P:Params):Obj:=⟨.none,none,(.fields #[]),#[]⟩
noncomputable def GA(P:Params):Obj:=⟨(.type "tuple"),none,(.seq #[(.str js 236)] 0),#[]⟩
noncomputable def EM(P:Params):Obj:=⟨(.type "tuple"),none,(.seq #[] 0),#[]⟩
noncomputable def RS(P:Params):Obj:=⟨.none,none,(.func ⟨aJ,Vi,L2.ak (L2.inClass (ht 3) 0), .stmts (L2.ai (L2.inClass (ht 3) 0)),L2.ae (L2.inClass (ht 3) 0),0,[], .none, .none, .none, .none,none, .none, .none,0⟩),#[]⟩
noncomputable def Fj(P:Params):Obj:=⟨(.type "code"),none,(.fields #[(.str aJ 233),(.str Vi 234),(.str aw 235),(HD.i 11),(HD.i 1),(HD.i 0),(HD.i 0),(HD.i 3),(.ref 49),(.bool true),(HD.i 181),(.ref 50), .none,(.ref 51),(.ref 52),(.ref 53),(HD.i 237),(HD.i 11),(.str aw 238)]),#[]⟩
noncomputable def Ef(P:Params):Obj:=⟨(.type "function"),none,(.func ⟨aJ,Vi,L2.ak (L2.inClass (ht 3) 0), .stmts (L2.ai (L2.inClass (ht 3) 0)),L2.ae (L2.inClass (ht 3) 0),3,[], .none, .none, .none,(.str bf 194),none,(.ref 54), .none,0⟩),#[]⟩
noncomputable def D6(P:Params):Obj:=⟨(.type "tuple"),none,(.seq #[] 0),#[]⟩
noncomputable def Hw(P:Params):Obj:=⟨(.type "dict"),none,(.dict #[⟨(PyData.keyHash P bC),(.str bC 228),(.str bf 194)⟩,⟨(PyData.keyHash P bE),(.str bE 232),(.int (.ofNat 9) 231)⟩,⟨(PyData.keyHash P aJ),(.str aJ 239),(.ref 55)⟩,⟨(PyData.keyHash P bD),(.str bD 240),(.ref 56)⟩,⟨(PyData.keyHash P x2),(.str x2 241), .none⟩] 2),#[]⟩
noncomputable def ER(P:Params):Obj:=⟨(.type "type"),none,(.cls ⟨bZ,[(.ref 38)],[(.ref 58),(.ref 38),(.type "ValueError"),(.type "Exception"),(.type "BaseException"),(.type "object")],57,bZ,true,[],[],false,none,false⟩),#[(some (.ref 42)),none,(some (.str bZ 221)),(some (.str bZ 229)),(some (.builtin "ValueError.__new__")),(some (.bool true))]⟩
noncomputable def RV(P:Params):Obj:=⟨(.type "super"),none,(.fields #[(.ref 58),(.ref 58),(.ref 58)]),#[]⟩
noncomputable def RD(P:Params):Obj:=⟨(.type "builtin_function_or_method"),none,(.fields #[(.builtin "object.__init_subclass__"),(.ref 58)]),#[]⟩
noncomputable def g2:List Stmt:=[ht 3]
noncomputable def T2(P:Params):BT:=(((((((((((((((((((((((T1 P).ins (nat_lit 3) (ab6 P)).ins (nat_lit 12) (V_ P)).ins (nat_lit 38) (XN P)).ins (nat_lit 42) (EH P)).ins (nat_lit 43) (Q3 P)).ins (nat_lit 44) (QF P)).ins (nat_lit 45) (RF P)).ins (nat_lit 46) (RA P)).ins (nat_lit 47) (RI P)).ins (nat_lit 48) (Qm P)).ins (nat_lit 49) (EI P)).ins (nat_lit 50) (QX P)).ins (nat_lit 51) (GA P)).ins (nat_lit 52) (EM P)).ins (nat_lit 53) (RS P)).ins (nat_lit 54) (Fj P)).ins (nat_lit 55) (Ef P)).ins (nat_lit 56) (D6 P)).ins (nat_lit 57) (Hw P)).ins (nat_lit 58) (ER P)).ins (nat_lit 59) (RV P)).ins (nat_lit 60) (RD P))
noncomputable def lf2:Life:=⟨[],[],[],0,[],[],false,#[],[],0,false,false,false,(.ofNat 0),[(.ofNat 2000),(.ofNat 10),(.ofNat 10)],false,0,true,[],[],0,false⟩
noncomputable abbrev S2(w:World)(os:OsState):SharedT:=⟨T2 w.params,nat_lit 61,lf2,Array.mk [],⟨0,0,0,0⟩,nat_lit 244,os⟩
noncomputable def q2(w:World):(OsState->Option (Flow×SharedT×Code×Pos))×(OsState->Option (Flow×SharedT×Code×Pos)):=(λos=>segRunT treeTable pw w (nat_lit 11) (some (.ref 6)) (nat_lit 1) (nat_lit 244) (S1 w os) (piecesOf g2 hE hC ⟨5,0,8,16⟩ hB),λos=>some (Flow.next,S2 w os,hC,⟨9,0,12,16⟩))
theorem Yo:HD.seg pw (nat_lit 11) (some (.ref 6)) (nat_lit 244) S1 S2 g2 hE hC ⟨5,0,8,16⟩ ⟨9,0,12,16⟩ hB=q2:=by kernel_rfl
name_quick QS for q2 by Yo
theorem i2(w:World):(Fast.QS w).1=(Fast.QS w).2:=by kernel_rfl
theorem h2:HD.Ok (HD.seg pw (nat_lit 11) (some (.ref 6)) (nat_lit 244) S1 S2 g2 hE hC ⟨5,0,8,16⟩ ⟨9,0,12,16⟩ hB):=HD.gc Fast.QS_eq i2
noncomputable def aa_(P:Params):Obj:=⟨(.type "dict"),none,(.dict #[⟨(PyData.keyHash P x0),(.str x0 165),(.str bf 194)⟩,⟨(PyData.keyHash P x2),(.str x2 166), .none⟩,⟨(PyData.keyHash P x3),(.str x3 167), .none⟩,⟨(PyData.keyHash P x4),(.str x4 168),(.builtin "__main__.__loader__#opaque")⟩,⟨(PyData.keyHash P x5),(.str x5 169), .none⟩,⟨(PyData.keyHash P cC),(.str cC 170),(.ref 6)⟩,⟨(PyData.keyHash P cA),(.str cA 171),(.ref 4)⟩,⟨(PyData.keyHash P cB),(.str cB 173),(.str aw 172)⟩,⟨(PyData.keyHash P cD),(.str cD 174), .none⟩,⟨(PyData.keyHash P bY),(.str bY 193),(.ref 21)⟩,⟨(PyData.keyHash P aL),(.str aL 220),(.ref 38)⟩,⟨(PyData.keyHash P bZ),(.str bZ 243),(.ref 58)⟩,⟨(PyData.keyHash P ck),(.str ck 266),(.ref 77)⟩] 13),#[]⟩
noncomputable def Y2(P:Params):Obj:=⟨.none,none,(.fields #[(HD.i 1),(HD.i 0),(.ref 20),(HD.i 5),(HD.i 0),(.ref 27),(HD.i 9),(HD.i 0),(.ref 47),(HD.i 13),(HD.i 0),(.ref 66)]),#[]⟩
noncomputable def aac(P:Params):Obj:=⟨(.type "type"),none,(.cls ⟨aL,[(.type "ValueError")],[(.ref 38),(.type "ValueError"),(.type "Exception"),(.type "BaseException"),(.type "object")],37,aL,true,[],[(.ref 58),(.ref 77)],false,none,false⟩),#[(some (.ref 22)),none,(some (.str aL 196)),(some (.str aL 204)),(some (.builtin "ValueError.__new__")),(some (.bool true))]⟩
noncomputable def Ew(P:Params):Obj:=⟨(.type "tuple"),none,(.seq #[(.ref 38)] 0),#[]⟩
noncomputable def RK(P:Params):Obj:=⟨(.type "builtin_function_or_method"),none,(.fields #[(.builtin "type.__prepare__"),(.type "type")]),#[]⟩
noncomputable def QB(P:Params):Obj:=⟨(.type "dict"),none,(.dict #[⟨(PyData.keyHash P bC),(.str bC 251),(.str bf 194)⟩,⟨(PyData.keyHash P dF),(.str dF 253),(.str ck 252)⟩,⟨(PyData.keyHash P bE),(.str bE 255),(.int (.ofNat 13) 254)⟩,⟨(PyData.keyHash P aJ),(.str aJ 262),(.ref 74)⟩,⟨(PyData.keyHash P bD),(.str bD 263),(.ref 75)⟩] 5),#[]⟩
noncomputable def Ru(P:Params):Obj:=⟨(.type "tuple"),none,(.seq #[] 0),#[]⟩
noncomputable def RQ(P:Params):Obj:=⟨.none,none,(.fields #[(HD.i 15),(HD.i 4),(.ref 73)]),#[]⟩
noncomputable def Q2(P:Params):Obj:=⟨(.type "code"),none,(.fields #[(.str ck 246),(.str ck 247),(.str aw 248),(HD.i 13),(HD.i 0),(HD.i 0),(HD.i 0),(HD.i 0),(.ref 64),(.bool false),(HD.i 181),(.ref 65), .none, .none, .none, .none,(HD.i 249),(HD.i 13),(.str aw 250)]),#[]⟩
noncomputable def Q7(P:Params):Obj:=⟨(.type "frame"),none, .plain,#[(some (.ref 66)),(some (.ref 3)),(some (.ref 63)),none,(some (.str bf 194)),none,(some (.ref 0))]⟩
noncomputable def Gx(P:Params):Obj:=⟨(.type "tuple"),none,(.seq #[] 0),#[]⟩
noncomputable def QE(P:Params):Obj:=⟨.none,none,(.fields #[]),#[]⟩
noncomputable def Fz(P:Params):Obj:=⟨(.type "tuple"),none,(.seq #[(.str js 259)] 0),#[]⟩
noncomputable def Hu(P:Params):Obj:=⟨(.type "tuple"),none,(.seq #[] 0),#[]⟩
noncomputable def QT(P:Params):Obj:=⟨.none,none,(.func ⟨aJ,U9,L2.ak (L2.inClass (ht 4) 0), .stmts (L2.ai (L2.inClass (ht 4) 0)),L2.ae (L2.inClass (ht 4) 0),0,[], .none, .none, .none, .none,none, .none, .none,0⟩),#[]⟩
noncomputable def F_(P:Params):Obj:=⟨(.type "code"),none,(.fields #[(.str aJ 256),(.str U9 257),(.str aw 258),(HD.i 15),(HD.i 1),(HD.i 0),(HD.i 0),(HD.i 3),(.ref 68),(.bool true),(HD.i 181),(.ref 69), .none,(.ref 70),(.ref 71),(.ref 72),(HD.i 260),(HD.i 15),(.str aw 261)]),#[]⟩
noncomputable def Fq(P:Params):Obj:=⟨(.type "function"),none,(.func ⟨aJ,U9,L2.ak (L2.inClass (ht 4) 0), .stmts (L2.ai (L2.inClass (ht 4) 0)),L2.ae (L2.inClass (ht 4) 0),3,[], .none, .none, .none,(.str bf 194),none,(.ref 73), .none,0⟩),#[]⟩
noncomputable def HU(P:Params):Obj:=⟨(.type "tuple"),none,(.seq #[] 0),#[]⟩
noncomputable def FX(P:Params):Obj:=⟨(.type "dict"),none,(.dict #[⟨(PyData.keyHash P bC),(.str bC 251),(.str bf 194)⟩,⟨(PyData.keyHash P bE),(.str bE 255),(.int (.ofNat 13) 254)⟩,⟨(PyData.keyHash P aJ),(.str aJ 262),(.ref 74)⟩,⟨(PyData.keyHash P bD),(.str bD 263),(.ref 75)⟩,⟨(PyData.keyHash P x2),(.str x2 264), .none⟩] 2),#[]⟩
noncomputable def EG(P:Params):Obj:=⟨(.type "type"),none,(.cls ⟨ck,[(.ref 38)],[(.ref 77),(.ref 38),(.type "ValueError"),(.type "Exception"),(.type "BaseException"),(.type "object")],76,ck,true,[],[],false,none,false⟩),#[(some (.ref 61)),none,(some (.str ck 244)),(some (.str ck 252)),(some (.builtin "ValueError.__new__")),(some (.bool true))]⟩
noncomputable def RP(P:Params):Obj:=⟨(.type "super"),none,(.fields #[(.ref 77),(.ref 77),(.ref 77)]),#[]⟩
noncomputable def Rr(P:Params):Obj:=⟨(.type "builtin_function_or_method"),none,(.fields #[(.builtin "object.__init_subclass__"),(.ref 77)]),#[]⟩
noncomputable def g3:List Stmt:=[ht 4]
noncomputable def T3(P:Params):BT:=(((((((((((((((((((((((T2 P).ins (nat_lit 3) (aa_ P)).ins (nat_lit 12) (Y2 P)).ins (nat_lit 38) (aac P)).ins (nat_lit 61) (Ew P)).ins (nat_lit 62) (RK P)).ins (nat_lit 63) (QB P)).ins (nat_lit 64) (Ru P)).ins (nat_lit 65) (RQ P)).ins (nat_lit 66) (Q2 P)).ins (nat_lit 67) (Q7 P)).ins (nat_lit 68) (Gx P)).ins (nat_lit 69) (QE P)).ins (nat_lit 70) (Fz P)).ins (nat_lit 71) (Hu P)).ins (nat_lit 72) (QT P)).ins (nat_lit 73) (F_ P)).ins (nat_lit 74) (Fq P)).ins (nat_lit 75) (HU P)).ins (nat_lit 76) (FX P)).ins (nat_lit 77) (EG P)).ins (nat_lit 78) (RP P)).ins (nat_lit 79) (Rr P))
noncomputable def lf3:Life:=⟨[],[],[],0,[],[],false,#[],[],0,false,false,false,(.ofNat 0),[(.ofNat 2000),(.ofNat 10),(.ofNat 10)],false,0,true,[],[],0,false⟩
noncomputable abbrev S3(w:World)(os:OsState):SharedT:=⟨T3 w.params,nat_lit 80,lf3,Array.mk [],⟨0,0,0,0⟩,nat_lit 267,os⟩
noncomputable def q3(w:World):(OsState->Option (Flow×SharedT×Code×Pos))×(OsState->Option (Flow×SharedT×Code×Pos)):=(λos=>segRunT treeTable pw w (nat_lit 11) (some (.ref 6)) (nat_lit 1) (nat_lit 244) (S2 w os) (piecesOf g3 hE hC ⟨9,0,12,16⟩ hB),λos=>some (Flow.next,S3 w os,hC,⟨13,0,16,16⟩))
theorem Yd:HD.seg pw (nat_lit 11) (some (.ref 6)) (nat_lit 244) S2 S3 g3 hE hC ⟨9,0,12,16⟩ ⟨13,0,16,16⟩ hB=q3:=by kernel_rfl
name_quick Ro for q3 by Yd
theorem i3(w:World):(Fast.Ro w).1=(Fast.Ro w).2:=by kernel_rfl
theorem h3:HD.Ok (HD.seg pw (nat_lit 11) (some (.ref 6)) (nat_lit 244) S2 S3 g3 hE hC ⟨9,0,12,16⟩ ⟨13,0,16,16⟩ hB):=HD.gc Fast.Ro_eq i3
noncomputable def aaG(P:Params):Obj:=⟨(.type "dict"),none,(.dict #[⟨(PyData.keyHash P x0),(.str x0 165),(.str bf 194)⟩,⟨(PyData.keyHash P x2),(.str x2 166), .none⟩,⟨(PyData.keyHash P x3),(.str x3 167), .none⟩,⟨(PyData.keyHash P x4),(.str x4 168),(.builtin "__main__.__loader__#opaque")⟩,⟨(PyData.keyHash P x5),(.str x5 169), .none⟩,⟨(PyData.keyHash P cC),(.str cC 170),(.ref 6)⟩,⟨(PyData.keyHash P cA),(.str cA 171),(.ref 4)⟩,⟨(PyData.keyHash P cB),(.str cB 173),(.str aw 172)⟩,⟨(PyData.keyHash P cD),(.str cD 174), .none⟩,⟨(PyData.keyHash P bY),(.str bY 193),(.ref 21)⟩,⟨(PyData.keyHash P aL),(.str aL 220),(.ref 38)⟩,⟨(PyData.keyHash P bZ),(.str bZ 243),(.ref 58)⟩,⟨(PyData.keyHash P ck),(.str ck 266),(.ref 77)⟩,⟨(PyData.keyHash P cy),(.str cy 289),(.ref 96)⟩] 14),#[]⟩
noncomputable def Ww(P:Params):Obj:=⟨.none,none,(.fields #[(HD.i 1),(HD.i 0),(.ref 20),(HD.i 5),(HD.i 0),(.ref 27),(HD.i 9),(HD.i 0),(.ref 47),(HD.i 13),(HD.i 0),(.ref 66),(HD.i 17),(HD.i 0),(.ref 85)]),#[]⟩
noncomputable def ZM(P:Params):Obj:=⟨(.type "type"),none,(.cls ⟨aL,[(.type "ValueError")],[(.ref 38),(.type "ValueError"),(.type "Exception"),(.type "BaseException"),(.type "object")],37,aL,true,[],[(.ref 58),(.ref 77),(.ref 96)],false,none,false⟩),#[(some (.ref 22)),none,(some (.str aL 196)),(some (.str aL 204)),(some (.builtin "ValueError.__new__")),(some (.bool true))]⟩
noncomputable def Ht(P:Params):Obj:=⟨(.type "tuple"),none,(.seq #[(.ref 38)] 0),#[]⟩
noncomputable def RG(P:Params):Obj:=⟨(.type "builtin_function_or_method"),none,(.fields #[(.builtin "type.__prepare__"),(.type "type")]),#[]⟩
noncomputable def Rq(P:Params):Obj:=⟨(.type "dict"),none,(.dict #[⟨(PyData.keyHash P bC),(.str bC 274),(.str bf 194)⟩,⟨(PyData.keyHash P dF),(.str dF 276),(.str cy 275)⟩,⟨(PyData.keyHash P bE),(.str bE 278),(.int (.ofNat 17) 277)⟩,⟨(PyData.keyHash P aJ),(.str aJ 285),(.ref 93)⟩,⟨(PyData.keyHash P bD),(.str bD 286),(.ref 94)⟩] 5),#[]⟩
noncomputable def RB(P:Params):Obj:=⟨(.type "tuple"),none,(.seq #[] 0),#[]⟩
noncomputable def Rh(P:Params):Obj:=⟨.none,none,(.fields #[(HD.i 19),(HD.i 4),(.ref 92)]),#[]⟩
noncomputable def RR(P:Params):Obj:=⟨(.type "code"),none,(.fields #[(.str cy 269),(.str cy 270),(.str aw 271),(HD.i 17),(HD.i 0),(HD.i 0),(HD.i 0),(HD.i 0),(.ref 83),(.bool false),(HD.i 181),(.ref 84), .none, .none, .none, .none,(HD.i 272),(HD.i 17),(.str aw 273)]),#[]⟩
noncomputable def Ry(P:Params):Obj:=⟨(.type "frame"),none, .plain,#[(some (.ref 85)),(some (.ref 3)),(some (.ref 82)),none,(some (.str bf 194)),none,(some (.ref 0))]⟩
noncomputable def Ib(P:Params):Obj:=⟨(.type "tuple"),none,(.seq #[] 0),#[]⟩
noncomputable def QZ(P:Params):Obj:=⟨.none,none,(.fields #[]),#[]⟩
noncomputable def GC(P:Params):Obj:=⟨(.type "tuple"),none,(.seq #[(.str js 282)] 0),#[]⟩
noncomputable def GO(P:Params):Obj:=⟨(.type "tuple"),none,(.seq #[] 0),#[]⟩
noncomputable def QN(P:Params):Obj:=⟨.none,none,(.func ⟨aJ,U7,L2.ak (L2.inClass (ht 5) 0), .stmts (L2.ai (L2.inClass (ht 5) 0)),L2.ae (L2.inClass (ht 5) 0),0,[], .none, .none, .none, .none,none, .none, .none,0⟩),#[]⟩
noncomputable def FC(P:Params):Obj:=⟨(.type "code"),none,(.fields #[(.str aJ 279),(.str U7 280),(.str aw 281),(HD.i 19),(HD.i 1),(HD.i 0),(HD.i 0),(HD.i 3),(.ref 87),(.bool true),(HD.i 181),(.ref 88), .none,(.ref 89),(.ref 90),(.ref 91),(HD.i 283),(HD.i 19),(.str aw 284)]),#[]⟩
noncomputable def EB(P:Params):Obj:=⟨(.type "function"),none,(.func ⟨aJ,U7,L2.ak (L2.inClass (ht 5) 0), .stmts (L2.ai (L2.inClass (ht 5) 0)),L2.ae (L2.inClass (ht 5) 0),3,[], .none, .none, .none,(.str bf 194),none,(.ref 92), .none,0⟩),#[]⟩
noncomputable def F5(P:Params):Obj:=⟨(.type "tuple"),none,(.seq #[] 0),#[]⟩
noncomputable def HP(P:Params):Obj:=⟨(.type "dict"),none,(.dict #[⟨(PyData.keyHash P bC),(.str bC 274),(.str bf 194)⟩,⟨(PyData.keyHash P bE),(.str bE 278),(.int (.ofNat 17) 277)⟩,⟨(PyData.keyHash P aJ),(.str aJ 285),(.ref 93)⟩,⟨(PyData.keyHash P bD),(.str bD 286),(.ref 94)⟩,⟨(PyData.keyHash P x2),(.str x2 287), .none⟩] 2),#[]⟩
noncomputable def Ea(P:Params):Obj:=⟨(.type "type"),none,(.cls ⟨cy,[(.ref 38)],[(.ref 96),(.ref 38),(.type "ValueError"),(.type "Exception"),(.type "BaseException"),(.type "object")],95,cy,true,[],[],false,none,false⟩),#[(some (.ref 80)),none,(some (.str cy 267)),(some (.str cy 275)),(some (.builtin "ValueError.__new__")),(some (.bool true))]⟩
noncomputable def QJ(P:Params):Obj:=⟨(.type "super"),none,(.fields #[(.ref 96),(.ref 96),(.ref 96)]),#[]⟩
noncomputable def RC(P:Params):Obj:=⟨(.type "builtin_function_or_method"),none,(.fields #[(.builtin "object.__init_subclass__"),(.ref 96)]),#[]⟩
noncomputable def g4:List Stmt:=[ht 5]
noncomputable def T4(P:Params):BT:=(((((((((((((((((((((((T3 P).ins (nat_lit 3) (aaG P)).ins (nat_lit 12) (Ww P)).ins (nat_lit 38) (ZM P)).ins (nat_lit 80) (Ht P)).ins (nat_lit 81) (RG P)).ins (nat_lit 82) (Rq P)).ins (nat_lit 83) (RB P)).ins (nat_lit 84) (Rh P)).ins (nat_lit 85) (RR P)).ins (nat_lit 86) (Ry P)).ins (nat_lit 87) (Ib P)).ins (nat_lit 88) (QZ P)).ins (nat_lit 89) (GC P)).ins (nat_lit 90) (GO P)).ins (nat_lit 91) (QN P)).ins (nat_lit 92) (FC P)).ins (nat_lit 93) (EB P)).ins (nat_lit 94) (F5 P)).ins (nat_lit 95) (HP P)).ins (nat_lit 96) (Ea P)).ins (nat_lit 97) (QJ P)).ins (nat_lit 98) (RC P))
noncomputable def lf4:Life:=⟨[],[],[],0,[],[],false,#[],[],0,false,false,false,(.ofNat 0),[(.ofNat 2000),(.ofNat 10),(.ofNat 10)],false,0,true,[],[],0,false⟩
noncomputable abbrev S4(w:World)(os:OsState):SharedT:=⟨T4 w.params,nat_lit 99,lf4,Array.mk [],⟨0,0,0,0⟩,nat_lit 290,os⟩
noncomputable def q4(w:World):(OsState->Option (Flow×SharedT×Code×Pos))×(OsState->Option (Flow×SharedT×Code×Pos)):=(λos=>segRunT treeTable pw w (nat_lit 11) (some (.ref 6)) (nat_lit 1) (nat_lit 244) (S3 w os) (piecesOf g4 hE hC ⟨13,0,16,16⟩ hB),λos=>some (Flow.next,S4 w os,hC,⟨17,0,20,16⟩))
theorem W8:HD.seg pw (nat_lit 11) (some (.ref 6)) (nat_lit 244) S3 S4 g4 hE hC ⟨13,0,16,16⟩ ⟨17,0,20,16⟩ hB=q4:=by kernel_rfl
name_quick QG for q4 by W8
theorem i4(w:World):(Fast.QG w).1=(Fast.QG w).2:=by kernel_rfl
theorem h4:HD.Ok (HD.seg pw (nat_lit 11) (some (.ref 6)) (nat_lit 244) S3 S4 g4 hE hC ⟨13,0,16,16⟩ ⟨17,0,20,16⟩ hB):=HD.gc Fast.QG_eq i4
noncomputable def acx(P:Params):Obj:=⟨(.type "dict"),none,(.dict #[⟨(PyData.keyHash P x0),(.str x0 165),(.str bf 194)⟩,⟨(PyData.keyHash P x2),(.str x2 166), .none⟩,⟨(PyData.keyHash P x3),(.str x3 167), .none⟩,⟨(PyData.keyHash P x4),(.str x4 168),(.builtin "__main__.__loader__#opaque")⟩,⟨(PyData.keyHash P x5),(.str x5 169), .none⟩,⟨(PyData.keyHash P cC),(.str cC 170),(.ref 6)⟩,⟨(PyData.keyHash P cA),(.str cA 171),(.ref 4)⟩,⟨(PyData.keyHash P cB),(.str cB 173),(.str aw 172)⟩,⟨(PyData.keyHash P cD),(.str cD 174), .none⟩,⟨(PyData.keyHash P bY),(.str bY 193),(.ref 21)⟩,⟨(PyData.keyHash P aL),(.str aL 220),(.ref 38)⟩,⟨(PyData.keyHash P bZ),(.str bZ 243),(.ref 58)⟩,⟨(PyData.keyHash P ck),(.str ck 266),(.ref 77)⟩,⟨(PyData.keyHash P cy),(.str cy 289),(.ref 96)⟩,⟨(PyData.keyHash P cG),(.str cG 312),(.ref 115)⟩] 15),#[]⟩
noncomputable def W7(P:Params):Obj:=⟨.none,none,(.fields #[(HD.i 1),(HD.i 0),(.ref 20),(HD.i 5),(HD.i 0),(.ref 27),(HD.i 9),(HD.i 0),(.ref 47),(HD.i 13),(HD.i 0),(.ref 66),(HD.i 17),(HD.i 0),(.ref 85),(HD.i 21),(HD.i 0),(.ref 104)]),#[]⟩
noncomputable def X8(P:Params):Obj:=⟨(.type "type"),none,(.cls ⟨aL,[(.type "ValueError")],[(.ref 38),(.type "ValueError"),(.type "Exception"),(.type "BaseException"),(.type "object")],37,aL,true,[],[(.ref 58),(.ref 77),(.ref 96),(.ref 115)],false,none,false⟩),#[(some (.ref 22)),none,(some (.str aL 196)),(some (.str aL 204)),(some (.builtin "ValueError.__new__")),(some (.bool true))]⟩
noncomputable def GK(P:Params):Obj:=⟨(.type "tuple"),none,(.seq #[(.ref 38)] 0),#[]⟩
noncomputable def Nb(P:Params):Obj:=⟨(.type "builtin_function_or_method"),none,(.fields #[(.builtin "type.__prepare__"),(.type "type")]),#[]⟩
noncomputable def Ko(P:Params):Obj:=⟨(.type "dict"),none,(.dict #[⟨(PyData.keyHash P bC),(.str bC 297),(.str bf 194)⟩,⟨(PyData.keyHash P dF),(.str dF 299),(.str cG 298)⟩,⟨(PyData.keyHash P bE),(.str bE 301),(.int (.ofNat 21) 300)⟩,⟨(PyData.keyHash P aJ),(.str aJ 308),(.ref 112)⟩,⟨(PyData.keyHash P bD),(.str bD 309),(.ref 113)⟩] 5),#[]⟩
noncomputable def Lp(P:Params):Obj:=⟨(.type "tuple"),none,(.seq #[] 0),#[]⟩
noncomputable def K6(P:Params):Obj:=⟨.none,none,(.fields #[(HD.i 23),(HD.i 4),(.ref 111)]),#[]⟩
noncomputable def MB(P:Params):Obj:=⟨(.type "code"),none,(.fields #[(.str cG 292),(.str cG 293),(.str aw 294),(HD.i 21),(HD.i 0),(HD.i 0),(HD.i 0),(HD.i 0),(.ref 102),(.bool false),(HD.i 181),(.ref 103), .none, .none, .none, .none,(HD.i 295),(HD.i 21),(.str aw 296)]),#[]⟩
noncomputable def N1(P:Params):Obj:=⟨(.type "frame"),none, .plain,#[(some (.ref 104)),(some (.ref 3)),(some (.ref 101)),none,(some (.str bf 194)),none,(some (.ref 0))]⟩
noncomputable def zg(P:Params):Obj:=⟨(.type "tuple"),none,(.seq #[] 0),#[]⟩
noncomputable def Kn(P:Params):Obj:=⟨.none,none,(.fields #[]),#[]⟩
noncomputable def yX(P:Params):Obj:=⟨(.type "tuple"),none,(.seq #[(.str js 305)] 0),#[]⟩
noncomputable def yU(P:Params):Obj:=⟨(.type "tuple"),none,(.seq #[] 0),#[]⟩
noncomputable def KU(P:Params):Obj:=⟨.none,none,(.func ⟨aJ,Sj,L2.ak (L2.inClass (ht 6) 0), .stmts (L2.ai (L2.inClass (ht 6) 0)),L2.ae (L2.inClass (ht 6) 0),0,[], .none, .none, .none, .none,none, .none, .none,0⟩),#[]⟩
noncomputable def zz(P:Params):Obj:=⟨(.type "code"),none,(.fields #[(.str aJ 302),(.str Sj 303),(.str aw 304),(HD.i 23),(HD.i 1),(HD.i 0),(HD.i 0),(HD.i 3),(.ref 106),(.bool true),(HD.i 181),(.ref 107), .none,(.ref 108),(.ref 109),(.ref 110),(HD.i 306),(HD.i 23),(.str aw 307)]),#[]⟩
noncomputable def yT(P:Params):Obj:=⟨(.type "function"),none,(.func ⟨aJ,Sj,L2.ak (L2.inClass (ht 6) 0), .stmts (L2.ai (L2.inClass (ht 6) 0)),L2.ae (L2.inClass (ht 6) 0),3,[], .none, .none, .none,(.str bf 194),none,(.ref 111), .none,0⟩),#[]⟩
noncomputable def yK(P:Params):Obj:=⟨(.type "tuple"),none,(.seq #[] 0),#[]⟩
noncomputable def yN(P:Params):Obj:=⟨(.type "dict"),none,(.dict #[⟨(PyData.keyHash P bC),(.str bC 297),(.str bf 194)⟩,⟨(PyData.keyHash P bE),(.str bE 301),(.int (.ofNat 21) 300)⟩,⟨(PyData.keyHash P aJ),(.str aJ 308),(.ref 112)⟩,⟨(PyData.keyHash P bD),(.str bD 309),(.ref 113)⟩,⟨(PyData.keyHash P x2),(.str x2 310), .none⟩] 2),#[]⟩
noncomputable def yY(P:Params):Obj:=⟨(.type "type"),none,(.cls ⟨cG,[(.ref 38)],[(.ref 115),(.ref 38),(.type "ValueError"),(.type "Exception"),(.type "BaseException"),(.type "object")],114,cG,true,[],[],false,none,false⟩),#[(some (.ref 99)),none,(some (.str cG 290)),(some (.str cG 298)),(some (.builtin "ValueError.__new__")),(some (.bool true))]⟩
noncomputable def Nc(P:Params):Obj:=⟨(.type "super"),none,(.fields #[(.ref 115),(.ref 115),(.ref 115)]),#[]⟩
noncomputable def N6(P:Params):Obj:=⟨(.type "builtin_function_or_method"),none,(.fields #[(.builtin "object.__init_subclass__"),(.ref 115)]),#[]⟩
noncomputable def g5:List Stmt:=[ht 6]
noncomputable def T5(P:Params):BT:=(((((((((((((((((((((((T4 P).ins (nat_lit 3) (acx P)).ins (nat_lit 12) (W7 P)).ins (nat_lit 38) (X8 P)).ins (nat_lit 99) (GK P)).ins (nat_lit 100) (Nb P)).ins (nat_lit 101) (Ko P)).ins (nat_lit 102) (Lp P)).ins (nat_lit 103) (K6 P)).ins (nat_lit 104) (MB P)).ins (nat_lit 105) (N1 P)).ins (nat_lit 106) (zg P)).ins (nat_lit 107) (Kn P)).ins (nat_lit 108) (yX P)).ins (nat_lit 109) (yU P)).ins (nat_lit 110) (KU P)).ins (nat_lit 111) (zz P)).ins (nat_lit 112) (yT P)).ins (nat_lit 113) (yK P)).ins (nat_lit 114) (yN P)).ins (nat_lit 115) (yY P)).ins (nat_lit 116) (Nc P)).ins (nat_lit 117) (N6 P))
noncomputable def lf5:Life:=⟨[],[],[],0,[],[],false,#[],[],0,false,false,false,(.ofNat 0),[(.ofNat 2000),(.ofNat 10),(.ofNat 10)],false,0,true,[],[],0,false⟩
noncomputable abbrev S5(w:World)(os:OsState):SharedT:=⟨T5 w.params,nat_lit 118,lf5,Array.mk [],⟨0,0,0,0⟩,nat_lit 313,os⟩
noncomputable def q5(w:World):(OsState->Option (Flow×SharedT×Code×Pos))×(OsState->Option (Flow×SharedT×Code×Pos)):=(λos=>segRunT treeTable pw w (nat_lit 11) (some (.ref 6)) (nat_lit 1) (nat_lit 244) (S4 w os) (piecesOf g5 hE hC ⟨17,0,20,16⟩ hB),λos=>some (Flow.next,S5 w os,hC,⟨21,0,24,16⟩))
theorem XJ:HD.seg pw (nat_lit 11) (some (.ref 6)) (nat_lit 244) S4 S5 g5 hE hC ⟨17,0,20,16⟩ ⟨21,0,24,16⟩ hB=q5:=by kernel_rfl
name_quick Qv for q5 by XJ
theorem i5(w:World):(Fast.Qv w).1=(Fast.Qv w).2:=by kernel_rfl
theorem h5:HD.Ok (HD.seg pw (nat_lit 11) (some (.ref 6)) (nat_lit 244) S4 S5 g5 hE hC ⟨17,0,20,16⟩ ⟨21,0,24,16⟩ hB):=HD.gc Fast.Qv_eq i5
noncomputable def acD(P:Params):Obj:=⟨(.type "dict"),none,(.dict #[⟨(PyData.keyHash P x0),(.str x0 165),(.str bf 194)⟩,⟨(PyData.keyHash P x2),(.str x2 166), .none⟩,⟨(PyData.keyHash P x3),(.str x3 167), .none⟩,⟨(PyData.keyHash P x4),(.str x4 168),(.builtin "__main__.__loader__#opaque")⟩,⟨(PyData.keyHash P x5),(.str x5 169), .none⟩,⟨(PyData.keyHash P cC),(.str cC 170),(.ref 6)⟩,⟨(PyData.keyHash P cA),(.str cA 171),(.ref 4)⟩,⟨(PyData.keyHash P cB),(.str cB 173),(.str aw 172)⟩,⟨(PyData.keyHash P cD),(.str cD 174), .none⟩,⟨(PyData.keyHash P bY),(.str bY 193),(.ref 21)⟩,⟨(PyData.keyHash P aL),(.str aL 220),(.ref 38)⟩,⟨(PyData.keyHash P bZ),(.str bZ 243),(.ref 58)⟩,⟨(PyData.keyHash P ck),(.str ck 266),(.ref 77)⟩,⟨(PyData.keyHash P cy),(.str cy 289),(.ref 96)⟩,⟨(PyData.keyHash P cG),(.str cG 312),(.ref 115)⟩,⟨(PyData.keyHash P cK),(.str cK 335),(.ref 134)⟩] 16),#[]⟩
noncomputable def Wh(P:Params):Obj:=⟨.none,none,(.fields #[(HD.i 1),(HD.i 0),(.ref 20),(HD.i 5),(HD.i 0),(.ref 27),(HD.i 9),(HD.i 0),(.ref 47),(HD.i 13),(HD.i 0),(.ref 66),(HD.i 17),(HD.i 0),(.ref 85),(HD.i 21),(HD.i 0),(.ref 104),(HD.i 25),(HD.i 0),(.ref 123)]),#[]⟩
noncomputable def WW(P:Params):Obj:=⟨(.type "type"),none,(.cls ⟨aL,[(.type "ValueError")],[(.ref 38),(.type "ValueError"),(.type "Exception"),(.type "BaseException"),(.type "object")],37,aL,true,[],[(.ref 58),(.ref 77),(.ref 96),(.ref 115),(.ref 134)],false,none,false⟩),#[(some (.ref 22)),none,(some (.str aL 196)),(some (.str aL 204)),(some (.builtin "ValueError.__new__")),(some (.bool true))]⟩
noncomputable def Ai(P:Params):Obj:=⟨(.type "tuple"),none,(.seq #[(.ref 38)] 0),#[]⟩
noncomputable def Nq(P:Params):Obj:=⟨(.type "builtin_function_or_method"),none,(.fields #[(.builtin "type.__prepare__"),(.type "type")]),#[]⟩
noncomputable def Mt(P:Params):Obj:=⟨(.type "dict"),none,(.dict #[⟨(PyData.keyHash P bC),(.str bC 320),(.str bf 194)⟩,⟨(PyData.keyHash P dF),(.str dF 322),(.str cK 321)⟩,⟨(PyData.keyHash P bE),(.str bE 324),(.int (.ofNat 25) 323)⟩,⟨(PyData.keyHash P aJ),(.str aJ 331),(.ref 131)⟩,⟨(PyData.keyHash P bD),(.str bD 332),(.ref 132)⟩] 5),#[]⟩
noncomputable def Me(P:Params):Obj:=⟨(.type "tuple"),none,(.seq #[] 0),#[]⟩
noncomputable def Mn(P:Params):Obj:=⟨.none,none,(.fields #[(HD.i 27),(HD.i 4),(.ref 130)]),#[]⟩
noncomputable def MQ(P:Params):Obj:=⟨(.type "code"),none,(.fields #[(.str cK 315),(.str cK 316),(.str aw 317),(HD.i 25),(HD.i 0),(HD.i 0),(HD.i 0),(HD.i 0),(.ref 121),(.bool false),(HD.i 181),(.ref 122), .none, .none, .none, .none,(HD.i 318),(HD.i 25),(.str aw 319)]),#[]⟩
noncomputable def Np(P:Params):Obj:=⟨(.type "frame"),none, .plain,#[(some (.ref 123)),(some (.ref 3)),(some (.ref 120)),none,(some (.str bf 194)),none,(some (.ref 0))]⟩
noncomputable def zr(P:Params):Obj:=⟨(.type "tuple"),none,(.seq #[] 0),#[]⟩
noncomputable def LX(P:Params):Obj:=⟨.none,none,(.fields #[]),#[]⟩
noncomputable def Av(P:Params):Obj:=⟨(.type "tuple"),none,(.seq #[(.str js 328)] 0),#[]⟩
noncomputable def yL(P:Params):Obj:=⟨(.type "tuple"),none,(.seq #[] 0),#[]⟩
noncomputable def ML(P:Params):Obj:=⟨.none,none,(.func ⟨aJ,Si,L2.ak (L2.inClass (ht 7) 0), .stmts (L2.ai (L2.inClass (ht 7) 0)),L2.ae (L2.inClass (ht 7) 0),0,[], .none, .none, .none, .none,none, .none, .none,0⟩),#[]⟩
noncomputable def zf(P:Params):Obj:=⟨(.type "code"),none,(.fields #[(.str aJ 325),(.str Si 326),(.str aw 327),(HD.i 27),(HD.i 1),(HD.i 0),(HD.i 0),(HD.i 3),(.ref 125),(.bool true),(HD.i 181),(.ref 126), .none,(.ref 127),(.ref 128),(.ref 129),(HD.i 329),(HD.i 27),(.str aw 330)]),#[]⟩
noncomputable def yl(P:Params):Obj:=⟨(.type "function"),none,(.func ⟨aJ,Si,L2.ak (L2.inClass (ht 7) 0), .stmts (L2.ai (L2.inClass (ht 7) 0)),L2.ae (L2.inClass (ht 7) 0),3,[], .none, .none, .none,(.str bf 194),none,(.ref 130), .none,0⟩),#[]⟩
noncomputable def z9(P:Params):Obj:=⟨(.type "tuple"),none,(.seq #[] 0),#[]⟩
noncomputable def yj(P:Params):Obj:=⟨(.type "dict"),none,(.dict #[⟨(PyData.keyHash P bC),(.str bC 320),(.str bf 194)⟩,⟨(PyData.keyHash P bE),(.str bE 324),(.int (.ofNat 25) 323)⟩,⟨(PyData.keyHash P aJ),(.str aJ 331),(.ref 131)⟩,⟨(PyData.keyHash P bD),(.str bD 332),(.ref 132)⟩,⟨(PyData.keyHash P x2),(.str x2 333), .none⟩] 2),#[]⟩
noncomputable def Au(P:Params):Obj:=⟨(.type "type"),none,(.cls ⟨cK,[(.ref 38)],[(.ref 134),(.ref 38),(.type "ValueError"),(.type "Exception"),(.type "BaseException"),(.type "object")],133,cK,true,[],[],false,none,false⟩),#[(some (.ref 118)),none,(some (.str cK 313)),(some (.str cK 321)),(some (.builtin "ValueError.__new__")),(some (.bool true))]⟩
noncomputable def Lj(P:Params):Obj:=⟨(.type "super"),none,(.fields #[(.ref 134),(.ref 134),(.ref 134)]),#[]⟩
noncomputable def Nm(P:Params):Obj:=⟨(.type "builtin_function_or_method"),none,(.fields #[(.builtin "object.__init_subclass__"),(.ref 134)]),#[]⟩
noncomputable def g6:List Stmt:=[ht 7]
noncomputable def T6(P:Params):BT:=(((((((((((((((((((((((T5 P).ins (nat_lit 3) (acD P)).ins (nat_lit 12) (Wh P)).ins (nat_lit 38) (WW P)).ins (nat_lit 118) (Ai P)).ins (nat_lit 119) (Nq P)).ins (nat_lit 120) (Mt P)).ins (nat_lit 121) (Me P)).ins (nat_lit 122) (Mn P)).ins (nat_lit 123) (MQ P)).ins (nat_lit 124) (Np P)).ins (nat_lit 125) (zr P)).ins (nat_lit 126) (LX P)).ins (nat_lit 127) (Av P)).ins (nat_lit 128) (yL P)).ins (nat_lit 129) (ML P)).ins (nat_lit 130) (zf P)).ins (nat_lit 131) (yl P)).ins (nat_lit 132) (z9 P)).ins (nat_lit 133) (yj P)).ins (nat_lit 134) (Au P)).ins (nat_lit 135) (Lj P)).ins (nat_lit 136) (Nm P))
noncomputable def lf6:Life:=⟨[],[],[],0,[],[],false,#[],[],0,false,false,false,(.ofNat 0),[(.ofNat 2000),(.ofNat 10),(.ofNat 10)],false,0,true,[],[],0,false⟩
noncomputable abbrev S6(w:World)(os:OsState):SharedT:=⟨T6 w.params,nat_lit 137,lf6,Array.mk [],⟨0,0,0,0⟩,nat_lit 336,os⟩
noncomputable def q6(w:World):(OsState->Option (Flow×SharedT×Code×Pos))×(OsState->Option (Flow×SharedT×Code×Pos)):=(λos=>segRunT treeTable pw w (nat_lit 11) (some (.ref 6)) (nat_lit 1) (nat_lit 244) (S5 w os) (piecesOf g6 hE hC ⟨21,0,24,16⟩ hB),λos=>some (Flow.next,S6 w os,hC,⟨25,0,28,16⟩))
theorem Zw:HD.seg pw (nat_lit 11) (some (.ref 6)) (nat_lit 244) S5 S6 g6 hE hC ⟨21,0,24,16⟩ ⟨25,0,28,16⟩ hB=q6:=by kernel_rfl
name_quick Ra for q6 by Zw
theorem i6(w:World):(Fast.Ra w).1=(Fast.Ra w).2:=by kernel_rfl
theorem h6:HD.Ok (HD.seg pw (nat_lit 11) (some (.ref 6)) (nat_lit 244) S5 S6 g6 hE hC ⟨21,0,24,16⟩ ⟨25,0,28,16⟩ hB):=HD.gc Fast.Ra_eq i6
noncomputable def acn(P:Params):Obj:=⟨(.type "dict"),none,(.dict #[⟨(PyData.keyHash P x0),(.str x0 165),(.str bf 194)⟩,⟨(PyData.keyHash P x2),(.str x2 166), .none⟩,⟨(PyData.keyHash P x3),(.str x3 167), .none⟩,⟨(PyData.keyHash P x4),(.str x4 168),(.builtin "__main__.__loader__#opaque")⟩,⟨(PyData.keyHash P x5),(.str x5 169), .none⟩,⟨(PyData.keyHash P cC),(.str cC 170),(.ref 6)⟩,⟨(PyData.keyHash P cA),(.str cA 171),(.ref 4)⟩,⟨(PyData.keyHash P cB),(.str cB 173),(.str aw 172)⟩,⟨(PyData.keyHash P cD),(.str cD 174), .none⟩,⟨(PyData.keyHash P bY),(.str bY 193),(.ref 21)⟩,⟨(PyData.keyHash P aL),(.str aL 220),(.ref 38)⟩,⟨(PyData.keyHash P bZ),(.str bZ 243),(.ref 58)⟩,⟨(PyData.keyHash P ck),(.str ck 266),(.ref 77)⟩,⟨(PyData.keyHash P cy),(.str cy 289),(.ref 96)⟩,⟨(PyData.keyHash P cG),(.str cG 312),(.ref 115)⟩,⟨(PyData.keyHash P cK),(.str cK 335),(.ref 134)⟩,⟨(PyData.keyHash P cO),(.str cO 358),(.ref 153)⟩] 17),#[]⟩
noncomputable def Wo(P:Params):Obj:=⟨.none,none,(.fields #[(HD.i 1),(HD.i 0),(.ref 20),(HD.i 5),(HD.i 0),(.ref 27),(HD.i 9),(HD.i 0),(.ref 47),(HD.i 13),(HD.i 0),(.ref 66),(HD.i 17),(HD.i 0),(.ref 85),(HD.i 21),(HD.i 0),(.ref 104),(HD.i 25),(HD.i 0),(.ref 123),(HD.i 29),(HD.i 0),(.ref 142)]),#[]⟩
noncomputable def Z0(P:Params):Obj:=⟨(.type "type"),none,(.cls ⟨aL,[(.type "ValueError")],[(.ref 38),(.type "ValueError"),(.type "Exception"),(.type "BaseException"),(.type "object")],37,aL,true,[],[(.ref 58),(.ref 77),(.ref 96),(.ref 115),(.ref 134),(.ref 153)],false,none,false⟩),#[(some (.ref 22)),none,(some (.str aL 196)),(some (.str aL 204)),(some (.builtin "ValueError.__new__")),(some (.bool true))]⟩
noncomputable def Aa(P:Params):Obj:=⟨(.type "tuple"),none,(.seq #[(.ref 38)] 0),#[]⟩
noncomputable def LJ(P:Params):Obj:=⟨(.type "builtin_function_or_method"),none,(.fields #[(.builtin "type.__prepare__"),(.type "type")]),#[]⟩
noncomputable def Ma(P:Params):Obj:=⟨(.type "dict"),none,(.dict #[⟨(PyData.keyHash P bC),(.str bC 343),(.str bf 194)⟩,⟨(PyData.keyHash P dF),(.str dF 345),(.str cO 344)⟩,⟨(PyData.keyHash P bE),(.str bE 347),(.int (.ofNat 29) 346)⟩,⟨(PyData.keyHash P aJ),(.str aJ 354),(.ref 150)⟩,⟨(PyData.keyHash P bD),(.str bD 355),(.ref 151)⟩] 5),#[]⟩
noncomputable def N8(P:Params):Obj:=⟨(.type "tuple"),none,(.seq #[] 0),#[]⟩
noncomputable def LA(P:Params):Obj:=⟨.none,none,(.fields #[(HD.i 31),(HD.i 4),(.ref 149)]),#[]⟩
noncomputable def MJ(P:Params):Obj:=⟨(.type "code"),none,(.fields #[(.str cO 338),(.str cO 339),(.str aw 340),(HD.i 29),(HD.i 0),(HD.i 0),(HD.i 0),(HD.i 0),(.ref 140),(.bool false),(HD.i 181),(.ref 141), .none, .none, .none, .none,(HD.i 341),(HD.i 29),(.str aw 342)]),#[]⟩
noncomputable def Na(P:Params):Obj:=⟨(.type "frame"),none, .plain,#[(some (.ref 142)),(some (.ref 3)),(some (.ref 139)),none,(some (.str bf 194)),none,(some (.ref 0))]⟩
noncomputable def zk(P:Params):Obj:=⟨(.type "tuple"),none,(.seq #[] 0),#[]⟩
noncomputable def Kg(P:Params):Obj:=⟨.none,none,(.fields #[]),#[]⟩
noncomputable def zU(P:Params):Obj:=⟨(.type "tuple"),none,(.seq #[(.str js 351)] 0),#[]⟩
noncomputable def zi(P:Params):Obj:=⟨(.type "tuple"),none,(.seq #[] 0),#[]⟩
noncomputable def K8(P:Params):Obj:=⟨.none,none,(.func ⟨aJ,UR,L2.ak (L2.inClass (ht 8) 0), .stmts (L2.ai (L2.inClass (ht 8) 0)),L2.ae (L2.inClass (ht 8) 0),0,[], .none, .none, .none, .none,none, .none, .none,0⟩),#[]⟩
noncomputable def yC(P:Params):Obj:=⟨(.type "code"),none,(.fields #[(.str aJ 348),(.str UR 349),(.str aw 350),(HD.i 31),(HD.i 1),(HD.i 0),(HD.i 0),(HD.i 3),(.ref 144),(.bool true),(HD.i 181),(.ref 145), .none,(.ref 146),(.ref 147),(.ref 148),(HD.i 352),(HD.i 31),(.str aw 353)]),#[]⟩
noncomputable def zt(P:Params):Obj:=⟨(.type "function"),none,(.func ⟨aJ,UR,L2.ak (L2.inClass (ht 8) 0), .stmts (L2.ai (L2.inClass (ht 8) 0)),L2.ae (L2.inClass (ht 8) 0),3,[], .none, .none, .none,(.str bf 194),none,(.ref 149), .none,0⟩),#[]⟩
noncomputable def zx(P:Params):Obj:=⟨(.type "tuple"),none,(.seq #[] 0),#[]⟩
noncomputable def Ap(P:Params):Obj:=⟨(.type "dict"),none,(.dict #[⟨(PyData.keyHash P bC),(.str bC 343),(.str bf 194)⟩,⟨(PyData.keyHash P bE),(.str bE 347),(.int (.ofNat 29) 346)⟩,⟨(PyData.keyHash P aJ),(.str aJ 354),(.ref 150)⟩,⟨(PyData.keyHash P bD),(.str bD 355),(.ref 151)⟩,⟨(PyData.keyHash P x2),(.str x2 356), .none⟩] 2),#[]⟩
noncomputable def zq(P:Params):Obj:=⟨(.type "type"),none,(.cls ⟨cO,[(.ref 38)],[(.ref 153),(.ref 38),(.type "ValueError"),(.type "Exception"),(.type "BaseException"),(.type "object")],152,cO,true,[],[],false,none,false⟩),#[(some (.ref 137)),none,(some (.str cO 336)),(some (.str cO 344)),(some (.builtin "ValueError.__new__")),(some (.bool true))]⟩
noncomputable def NI(P:Params):Obj:=⟨(.type "super"),none,(.fields #[(.ref 153),(.ref 153),(.ref 153)]),#[]⟩
noncomputable def NG(P:Params):Obj:=⟨(.type "builtin_function_or_method"),none,(.fields #[(.builtin "object.__init_subclass__"),(.ref 153)]),#[]⟩
noncomputable def g7:List Stmt:=[ht 8]
noncomputable def T7(P:Params):BT:=(((((((((((((((((((((((T6 P).ins (nat_lit 3) (acn P)).ins (nat_lit 12) (Wo P)).ins (nat_lit 38) (Z0 P)).ins (nat_lit 137) (Aa P)).ins (nat_lit 138) (LJ P)).ins (nat_lit 139) (Ma P)).ins (nat_lit 140) (N8 P)).ins (nat_lit 141) (LA P)).ins (nat_lit 142) (MJ P)).ins (nat_lit 143) (Na P)).ins (nat_lit 144) (zk P)).ins (nat_lit 145) (Kg P)).ins (nat_lit 146) (zU P)).ins (nat_lit 147) (zi P)).ins (nat_lit 148) (K8 P)).ins (nat_lit 149) (yC P)).ins (nat_lit 150) (zt P)).ins (nat_lit 151) (zx P)).ins (nat_lit 152) (Ap P)).ins (nat_lit 153) (zq P)).ins (nat_lit 154) (NI P)).ins (nat_lit 155) (NG P))
noncomputable def lf7:Life:=⟨[],[],[],0,[],[],false,#[],[],0,false,false,false,(.ofNat 0),[(.ofNat 2000),(.ofNat 10),(.ofNat 10)],false,0,true,[],[],0,false⟩
noncomputable abbrev S7(w:World)(os:OsState):SharedT:=⟨T7 w.params,nat_lit 156,lf7,Array.mk [],⟨0,0,0,0⟩,nat_lit 359,os⟩
noncomputable def q7(w:World):(OsState->Option (Flow×SharedT×Code×Pos))×(OsState->Option (Flow×SharedT×Code×Pos)):=(λos=>segRunT treeTable pw w (nat_lit 11) (some (.ref 6)) (nat_lit 1) (nat_lit 244) (S6 w os) (piecesOf g7 hE hC ⟨25,0,28,16⟩ hB),λos=>some (Flow.next,S7 w os,hC,⟨29,0,32,16⟩))
theorem XZ:HD.seg pw (nat_lit 11) (some (.ref 6)) (nat_lit 244) S6 S7 g7 hE hC ⟨25,0,28,16⟩ ⟨29,0,32,16⟩ hB=q7:=by kernel_rfl
name_quick QM for q7 by XZ
theorem i7(w:World):(Fast.QM w).1=(Fast.QM w).2:=by kernel_rfl
theorem h7:HD.Ok (HD.seg pw (nat_lit 11) (some (.ref 6)) (nat_lit 244) S6 S7 g7 hE hC ⟨25,0,28,16⟩ ⟨29,0,32,16⟩ hB):=HD.gc Fast.QM_eq i7
noncomputable def aa6(P:Params):Obj:=⟨(.type "dict"),none,(.dict #[⟨(PyData.keyHash P x0),(.str x0 165),(.str bf 194)⟩,⟨(PyData.keyHash P x2),(.str x2 166), .none⟩,⟨(PyData.keyHash P x3),(.str x3 167), .none⟩,⟨(PyData.keyHash P x4),(.str x4 168),(.builtin "__main__.__loader__#opaque")⟩,⟨(PyData.keyHash P x5),(.str x5 169), .none⟩,⟨(PyData.keyHash P cC),(.str cC 170),(.ref 6)⟩,⟨(PyData.keyHash P cA),(.str cA 171),(.ref 4)⟩,⟨(PyData.keyHash P cB),(.str cB 173),(.str aw 172)⟩,⟨(PyData.keyHash P cD),(.str cD 174), .none⟩,⟨(PyData.keyHash P bY),(.str bY 193),(.ref 21)⟩,⟨(PyData.keyHash P aL),(.str aL 220),(.ref 38)⟩,⟨(PyData.keyHash P bZ),(.str bZ 243),(.ref 58)⟩,⟨(PyData.keyHash P ck),(.str ck 266),(.ref 77)⟩,⟨(PyData.keyHash P cy),(.str cy 289),(.ref 96)⟩,⟨(PyData.keyHash P cG),(.str cG 312),(.ref 115)⟩,⟨(PyData.keyHash P cK),(.str cK 335),(.ref 134)⟩,⟨(PyData.keyHash P cO),(.str cO 358),(.ref 153)⟩,⟨(PyData.keyHash P c9),(.str c9 381),(.ref 172)⟩] 18),#[]⟩
noncomputable def Y7(P:Params):Obj:=⟨.none,none,(.fields #[(HD.i 1),(HD.i 0),(.ref 20),(HD.i 5),(HD.i 0),(.ref 27),(HD.i 9),(HD.i 0),(.ref 47),(HD.i 13),(HD.i 0),(.ref 66),(HD.i 17),(HD.i 0),(.ref 85),(HD.i 21),(HD.i 0),(.ref 104),(HD.i 25),(HD.i 0),(.ref 123),(HD.i 29),(HD.i 0),(.ref 142),(HD.i 33),(HD.i 0),(.ref 161)]),#[]⟩
noncomputable def WU(P:Params):Obj:=⟨(.type "type"),none,(.cls ⟨aL,[(.type "ValueError")],[(.ref 38),(.type "ValueError"),(.type "Exception"),(.type "BaseException"),(.type "object")],37,aL,true,[],[(.ref 58),(.ref 77),(.ref 96),(.ref 115),(.ref 134),(.ref 153),(.ref 172)],false,none,false⟩),#[(some (.ref 22)),none,(some (.str aL 196)),(some (.str aL 204)),(some (.builtin "ValueError.__new__")),(some (.bool true))]⟩
noncomputable def zl(P:Params):Obj:=⟨(.type "tuple"),none,(.seq #[(.ref 38)] 0),#[]⟩
noncomputable def Nz(P:Params):Obj:=⟨(.type "builtin_function_or_method"),none,(.fields #[(.builtin "type.__prepare__"),(.type "type")]),#[]⟩
noncomputable def KG(P:Params):Obj:=⟨(.type "dict"),none,(.dict #[⟨(PyData.keyHash P bC),(.str bC 366),(.str bf 194)⟩,⟨(PyData.keyHash P dF),(.str dF 368),(.str c9 367)⟩,⟨(PyData.keyHash P bE),(.str bE 370),(.int (.ofNat 33) 369)⟩,⟨(PyData.keyHash P aJ),(.str aJ 377),(.ref 169)⟩,⟨(PyData.keyHash P bD),(.str bD 378),(.ref 170)⟩] 5),#[]⟩
noncomputable def MZ(P:Params):Obj:=⟨(.type "tuple"),none,(.seq #[] 0),#[]⟩
noncomputable def Lg(P:Params):Obj:=⟨.none,none,(.fields #[(HD.i 35),(HD.i 4),(.ref 168)]),#[]⟩
noncomputable def KN(P:Params):Obj:=⟨(.type "code"),none,(.fields #[(.str c9 361),(.str c9 362),(.str aw 363),(HD.i 33),(HD.i 0),(HD.i 0),(HD.i 0),(HD.i 0),(.ref 159),(.bool false),(HD.i 181),(.ref 160), .none, .none, .none, .none,(HD.i 364),(HD.i 33),(.str aw 365)]),#[]⟩
noncomputable def KA(P:Params):Obj:=⟨(.type "frame"),none, .plain,#[(some (.ref 161)),(some (.ref 3)),(some (.ref 158)),none,(some (.str bf 194)),none,(some (.ref 0))]⟩
noncomputable def Am(P:Params):Obj:=⟨(.type "tuple"),none,(.seq #[] 0),#[]⟩
noncomputable def Mm(P:Params):Obj:=⟨.none,none,(.fields #[]),#[]⟩
noncomputable def As(P:Params):Obj:=⟨(.type "tuple"),none,(.seq #[(.str js 374)] 0),#[]⟩
noncomputable def ze(P:Params):Obj:=⟨(.type "tuple"),none,(.seq #[] 0),#[]⟩
noncomputable def MK(P:Params):Obj:=⟨.none,none,(.func ⟨aJ,U_,L2.ak (L2.inClass (ht 9) 0), .stmts (L2.ai (L2.inClass (ht 9) 0)),L2.ae (L2.inClass (ht 9) 0),0,[], .none, .none, .none, .none,none, .none, .none,0⟩),#[]⟩
noncomputable def An(P:Params):Obj:=⟨(.type "code"),none,(.fields #[(.str aJ 371),(.str U_ 372),(.str aw 373),(HD.i 35),(HD.i 1),(HD.i 0),(HD.i 0),(HD.i 3),(.ref 163),(.bool true),(HD.i 181),(.ref 164), .none,(.ref 165),(.ref 166),(.ref 167),(HD.i 375),(HD.i 35),(.str aw 376)]),#[]⟩
noncomputable def zH(P:Params):Obj:=⟨(.type "function"),none,(.func ⟨aJ,U_,L2.ak (L2.inClass (ht 9) 0), .stmts (L2.ai (L2.inClass (ht 9) 0)),L2.ae (L2.inClass (ht 9) 0),3,[], .none, .none, .none,(.str bf 194),none,(.ref 168), .none,0⟩),#[]⟩
noncomputable def zL(P:Params):Obj:=⟨(.type "tuple"),none,(.seq #[] 0),#[]⟩
noncomputable def yf(P:Params):Obj:=⟨(.type "dict"),none,(.dict #[⟨(PyData.keyHash P bC),(.str bC 366),(.str bf 194)⟩,⟨(PyData.keyHash P bE),(.str bE 370),(.int (.ofNat 33) 369)⟩,⟨(PyData.keyHash P aJ),(.str aJ 377),(.ref 169)⟩,⟨(PyData.keyHash P bD),(.str bD 378),(.ref 170)⟩,⟨(PyData.keyHash P x2),(.str x2 379), .none⟩] 2),#[]⟩
noncomputable def yZ(P:Params):Obj:=⟨(.type "type"),none,(.cls ⟨c9,[(.ref 38)],[(.ref 172),(.ref 38),(.type "ValueError"),(.type "Exception"),(.type "BaseException"),(.type "object")],171,c9,true,[],[],false,none,false⟩),#[(some (.ref 156)),none,(some (.str c9 359)),(some (.str c9 367)),(some (.builtin "ValueError.__new__")),(some (.bool true))]⟩
noncomputable def Lx(P:Params):Obj:=⟨(.type "super"),none,(.fields #[(.ref 172),(.ref 172),(.ref 172)]),#[]⟩
noncomputable def NL(P:Params):Obj:=⟨(.type "builtin_function_or_method"),none,(.fields #[(.builtin "object.__init_subclass__"),(.ref 172)]),#[]⟩
noncomputable def g8:List Stmt:=[ht 9]
noncomputable def T8(P:Params):BT:=(((((((((((((((((((((((T7 P).ins (nat_lit 3) (aa6 P)).ins (nat_lit 12) (Y7 P)).ins (nat_lit 38) (WU P)).ins (nat_lit 156) (zl P)).ins (nat_lit 157) (Nz P)).ins (nat_lit 158) (KG P)).ins (nat_lit 159) (MZ P)).ins (nat_lit 160) (Lg P)).ins (nat_lit 161) (KN P)).ins (nat_lit 162) (KA P)).ins (nat_lit 163) (Am P)).ins (nat_lit 164) (Mm P)).ins (nat_lit 165) (As P)).ins (nat_lit 166) (ze P)).ins (nat_lit 167) (MK P)).ins (nat_lit 168) (An P)).ins (nat_lit 169) (zH P)).ins (nat_lit 170) (zL P)).ins (nat_lit 171) (yf P)).ins (nat_lit 172) (yZ P)).ins (nat_lit 173) (Lx P)).ins (nat_lit 174) (NL P))
noncomputable def lf8:Life:=⟨[],[],[],0,[],[],false,#[],[],0,false,false,false,(.ofNat 0),[(.ofNat 2000),(.ofNat 10),(.ofNat 10)],false,0,true,[],[],0,false⟩
noncomputable abbrev S8(w:World)(os:OsState):SharedT:=⟨T8 w.params,nat_lit 175,lf8,Array.mk [],⟨0,0,0,0⟩,nat_lit 382,os⟩
noncomputable def q8(w:World):(OsState->Option (Flow×SharedT×Code×Pos))×(OsState->Option (Flow×SharedT×Code×Pos)):=(λos=>segRunT treeTable pw w (nat_lit 11) (some (.ref 6)) (nat_lit 1) (nat_lit 244) (S7 w os) (piecesOf g8 hE hC ⟨29,0,32,16⟩ hB),λos=>some (Flow.next,S8 w os,hC,⟨33,0,36,16⟩))
theorem Xk:HD.seg pw (nat_lit 11) (some (.ref 6)) (nat_lit 244) S7 S8 g8 hE hC ⟨29,0,32,16⟩ ⟨33,0,36,16⟩ hB=q8:=by kernel_rfl
name_quick Rf for q8 by Xk
theorem i8(w:World):(Fast.Rf w).1=(Fast.Rf w).2:=by kernel_rfl
theorem h8:HD.Ok (HD.seg pw (nat_lit 11) (some (.ref 6)) (nat_lit 244) S7 S8 g8 hE hC ⟨29,0,32,16⟩ ⟨33,0,36,16⟩ hB):=HD.gc Fast.Rf_eq i8
noncomputable def aan(P:Params):Obj:=⟨(.type "dict"),none,(.dict #[⟨(PyData.keyHash P x0),(.str x0 165),(.str bf 194)⟩,⟨(PyData.keyHash P x2),(.str x2 166), .none⟩,⟨(PyData.keyHash P x3),(.str x3 167), .none⟩,⟨(PyData.keyHash P x4),(.str x4 168),(.builtin "__main__.__loader__#opaque")⟩,⟨(PyData.keyHash P x5),(.str x5 169), .none⟩,⟨(PyData.keyHash P cC),(.str cC 170),(.ref 6)⟩,⟨(PyData.keyHash P cA),(.str cA 171),(.ref 4)⟩,⟨(PyData.keyHash P cB),(.str cB 173),(.str aw 172)⟩,⟨(PyData.keyHash P cD),(.str cD 174), .none⟩,⟨(PyData.keyHash P bY),(.str bY 193),(.ref 21)⟩,⟨(PyData.keyHash P aL),(.str aL 220),(.ref 38)⟩,⟨(PyData.keyHash P bZ),(.str bZ 243),(.ref 58)⟩,⟨(PyData.keyHash P ck),(.str ck 266),(.ref 77)⟩,⟨(PyData.keyHash P cy),(.str cy 289),(.ref 96)⟩,⟨(PyData.keyHash P cG),(.str cG 312),(.ref 115)⟩,⟨(PyData.keyHash P cK),(.str cK 335),(.ref 134)⟩,⟨(PyData.keyHash P cO),(.str cO 358),(.ref 153)⟩,⟨(PyData.keyHash P c9),(.str c9 381),(.ref 172)⟩,⟨(PyData.keyHash P dy),(.str dy 404),(.ref 191)⟩] 19),#[]⟩
noncomputable def XW(P:Params):Obj:=⟨.none,none,(.fields #[(HD.i 1),(HD.i 0),(.ref 20),(HD.i 5),(HD.i 0),(.ref 27),(HD.i 9),(HD.i 0),(.ref 47),(HD.i 13),(HD.i 0),(.ref 66),(HD.i 17),(HD.i 0),(.ref 85),(HD.i 21),(HD.i 0),(.ref 104),(HD.i 25),(HD.i 0),(.ref 123),(HD.i 29),(HD.i 0),(.ref 142),(HD.i 33),(HD.i 0),(.ref 161),(HD.i 37),(HD.i 0),(.ref 180)]),#[]⟩
noncomputable def YH(P:Params):Obj:=⟨(.type "type"),none,(.cls ⟨aL,[(.type "ValueError")],[(.ref 38),(.type "ValueError"),(.type "Exception"),(.type "BaseException"),(.type "object")],37,aL,true,[],[(.ref 58),(.ref 77),(.ref 96),(.ref 115),(.ref 134),(.ref 153),(.ref 172),(.ref 191)],false,none,false⟩),#[(some (.ref 22)),none,(some (.str aL 196)),(some (.str aL 204)),(some (.builtin "ValueError.__new__")),(some (.bool true))]⟩
noncomputable def yi(P:Params):Obj:=⟨(.type "tuple"),none,(.seq #[(.ref 38)] 0),#[]⟩
noncomputable def NN(P:Params):Obj:=⟨(.type "builtin_function_or_method"),none,(.fields #[(.builtin "type.__prepare__"),(.type "type")]),#[]⟩
noncomputable def NM(P:Params):Obj:=⟨(.type "dict"),none,(.dict #[⟨(PyData.keyHash P bC),(.str bC 389),(.str bf 194)⟩,⟨(PyData.keyHash P dF),(.str dF 391),(.str dy 390)⟩,⟨(PyData.keyHash P bE),(.str bE 393),(.int (.ofNat 37) 392)⟩,⟨(PyData.keyHash P aJ),(.str aJ 400),(.ref 188)⟩,⟨(PyData.keyHash P bD),(.str bD 401),(.ref 189)⟩] 5),#[]⟩
noncomputable def Lz(P:Params):Obj:=⟨(.type "tuple"),none,(.seq #[] 0),#[]⟩
noncomputable def Ll(P:Params):Obj:=⟨.none,none,(.fields #[(HD.i 39),(HD.i 4),(.ref 187)]),#[]⟩
noncomputable def LY(P:Params):Obj:=⟨(.type "code"),none,(.fields #[(.str dy 384),(.str dy 385),(.str aw 386),(HD.i 37),(HD.i 0),(HD.i 0),(HD.i 0),(HD.i 0),(.ref 178),(.bool false),(HD.i 181),(.ref 179), .none, .none, .none, .none,(HD.i 387),(HD.i 37),(.str aw 388)]),#[]⟩
noncomputable def ME(P:Params):Obj:=⟨(.type "frame"),none, .plain,#[(some (.ref 180)),(some (.ref 3)),(some (.ref 177)),none,(some (.str bf 194)),none,(some (.ref 0))]⟩
noncomputable def zW(P:Params):Obj:=⟨(.type "tuple"),none,(.seq #[] 0),#[]⟩
noncomputable def Mh(P:Params):Obj:=⟨.none,none,(.fields #[]),#[]⟩
noncomputable def zS(P:Params):Obj:=⟨(.type "tuple"),none,(.seq #[(.str js 397)] 0),#[]⟩
noncomputable def yI(P:Params):Obj:=⟨(.type "tuple"),none,(.seq #[] 0),#[]⟩
noncomputable def Kk(P:Params):Obj:=⟨.none,none,(.func ⟨aJ,Uy,L2.ak (L2.inClass (ht 10) 0), .stmts (L2.ai (L2.inClass (ht 10) 0)),L2.ae (L2.inClass (ht 10) 0),0,[], .none, .none, .none, .none,none, .none, .none,0⟩),#[]⟩
noncomputable def Af(P:Params):Obj:=⟨(.type "code"),none,(.fields #[(.str aJ 394),(.str Uy 395),(.str aw 396),(HD.i 39),(HD.i 1),(HD.i 0),(HD.i 0),(HD.i 3),(.ref 182),(.bool true),(HD.i 181),(.ref 183), .none,(.ref 184),(.ref 185),(.ref 186),(HD.i 398),(HD.i 39),(.str aw 399)]),#[]⟩
noncomputable def yP(P:Params):Obj:=⟨(.type "function"),none,(.func ⟨aJ,Uy,L2.ak (L2.inClass (ht 10) 0), .stmts (L2.ai (L2.inClass (ht 10) 0)),L2.ae (L2.inClass (ht 10) 0),3,[], .none, .none, .none,(.str bf 194),none,(.ref 187), .none,0⟩),#[]⟩
noncomputable def yM(P:Params):Obj:=⟨(.type "tuple"),none,(.seq #[] 0),#[]⟩
noncomputable def yG(P:Params):Obj:=⟨(.type "dict"),none,(.dict #[⟨(PyData.keyHash P bC),(.str bC 389),(.str bf 194)⟩,⟨(PyData.keyHash P bE),(.str bE 393),(.int (.ofNat 37) 392)⟩,⟨(PyData.keyHash P aJ),(.str aJ 400),(.ref 188)⟩,⟨(PyData.keyHash P bD),(.str bD 401),(.ref 189)⟩,⟨(PyData.keyHash P x2),(.str x2 402), .none⟩] 2),#[]⟩
noncomputable def yR(P:Params):Obj:=⟨(.type "type"),none,(.cls ⟨dy,[(.ref 38)],[(.ref 191),(.ref 38),(.type "ValueError"),(.type "Exception"),(.type "BaseException"),(.type "object")],190,dy,true,[],[],false,none,false⟩),#[(some (.ref 175)),none,(some (.str dy 382)),(some (.str dy 390)),(some (.builtin "ValueError.__new__")),(some (.bool true))]⟩
noncomputable def LC(P:Params):Obj:=⟨(.type "super"),none,(.fields #[(.ref 191),(.ref 191),(.ref 191)]),#[]⟩
noncomputable def M4(P:Params):Obj:=⟨(.type "builtin_function_or_method"),none,(.fields #[(.builtin "object.__init_subclass__"),(.ref 191)]),#[]⟩
noncomputable def g9:List Stmt:=[ht 10]
noncomputable def T9(P:Params):BT:=(((((((((((((((((((((((T8 P).ins (nat_lit 3) (aan P)).ins (nat_lit 12) (XW P)).ins (nat_lit 38) (YH P)).ins (nat_lit 175) (yi P)).ins (nat_lit 176) (NN P)).ins (nat_lit 177) (NM P)).ins (nat_lit 178) (Lz P)).ins (nat_lit 179) (Ll P)).ins (nat_lit 180) (LY P)).ins (nat_lit 181) (ME P)).ins (nat_lit 182) (zW P)).ins (nat_lit 183) (Mh P)).ins (nat_lit 184) (zS P)).ins (nat_lit 185) (yI P)).ins (nat_lit 186) (Kk P)).ins (nat_lit 187) (Af P)).ins (nat_lit 188) (yP P)).ins (nat_lit 189) (yM P)).ins (nat_lit 190) (yG P)).ins (nat_lit 191) (yR P)).ins (nat_lit 192) (LC P)).ins (nat_lit 193) (M4 P))
noncomputable def lf9:Life:=⟨[],[],[],0,[],[],false,#[],[],0,false,false,false,(.ofNat 0),[(.ofNat 2000),(.ofNat 10),(.ofNat 10)],false,0,true,[],[],0,false⟩
noncomputable abbrev S9(w:World)(os:OsState):SharedT:=⟨T9 w.params,nat_lit 194,lf9,Array.mk [],⟨0,0,0,0⟩,nat_lit 405,os⟩
noncomputable def q9(w:World):(OsState->Option (Flow×SharedT×Code×Pos))×(OsState->Option (Flow×SharedT×Code×Pos)):=(λos=>segRunT treeTable pw w (nat_lit 11) (some (.ref 6)) (nat_lit 1) (nat_lit 244) (S8 w os) (piecesOf g9 hE hC ⟨33,0,36,16⟩ hB),λos=>some (Flow.next,S9 w os,hC,⟨37,0,40,16⟩))
theorem Xi:HD.seg pw (nat_lit 11) (some (.ref 6)) (nat_lit 244) S8 S9 g9 hE hC ⟨33,0,36,16⟩ ⟨37,0,40,16⟩ hB=q9:=by kernel_rfl
name_quick Q6 for q9 by Xi
theorem i9(w:World):(Fast.Q6 w).1=(Fast.Q6 w).2:=by kernel_rfl
theorem h9:HD.Ok (HD.seg pw (nat_lit 11) (some (.ref 6)) (nat_lit 244) S8 S9 g9 hE hC ⟨33,0,36,16⟩ ⟨37,0,40,16⟩ hB):=HD.gc Fast.Q6_eq i9
noncomputable def Yq(P:Params):Obj:=⟨(.type "dict"),none,(.dict #[⟨(PyData.keyHash P x0),(.str x0 165),(.str bf 194)⟩,⟨(PyData.keyHash P x2),(.str x2 166), .none⟩,⟨(PyData.keyHash P x3),(.str x3 167), .none⟩,⟨(PyData.keyHash P x4),(.str x4 168),(.builtin "__main__.__loader__#opaque")⟩,⟨(PyData.keyHash P x5),(.str x5 169), .none⟩,⟨(PyData.keyHash P cC),(.str cC 170),(.ref 6)⟩,⟨(PyData.keyHash P cA),(.str cA 171),(.ref 4)⟩,⟨(PyData.keyHash P cB),(.str cB 173),(.str aw 172)⟩,⟨(PyData.keyHash P cD),(.str cD 174), .none⟩,⟨(PyData.keyHash P bY),(.str bY 193),(.ref 21)⟩,⟨(PyData.keyHash P aL),(.str aL 220),(.ref 38)⟩,⟨(PyData.keyHash P bZ),(.str bZ 243),(.ref 58)⟩,⟨(PyData.keyHash P ck),(.str ck 266),(.ref 77)⟩,⟨(PyData.keyHash P cy),(.str cy 289),(.ref 96)⟩,⟨(PyData.keyHash P cG),(.str cG 312),(.ref 115)⟩,⟨(PyData.keyHash P cK),(.str cK 335),(.ref 134)⟩,⟨(PyData.keyHash P cO),(.str cO 358),(.ref 153)⟩,⟨(PyData.keyHash P c9),(.str c9 381),(.ref 172)⟩,⟨(PyData.keyHash P dy),(.str dy 404),(.ref 191)⟩,⟨(PyData.keyHash P dQ),(.str dQ 427),(.ref 210)⟩] 20),#[]⟩
noncomputable def Sg(P:Params):Obj:=⟨.none,none,(.fields #[(HD.i 1),(HD.i 0),(.ref 20),(HD.i 5),(HD.i 0),(.ref 27),(HD.i 9),(HD.i 0),(.ref 47),(HD.i 13),(HD.i 0),(.ref 66),(HD.i 17),(HD.i 0),(.ref 85),(HD.i 21),(HD.i 0),(.ref 104),(HD.i 25),(HD.i 0),(.ref 123),(HD.i 29),(HD.i 0),(.ref 142),(HD.i 33),(HD.i 0),(.ref 161),(HD.i 37),(HD.i 0),(.ref 180),(HD.i 41),(HD.i 0),(.ref 199)]),#[]⟩
noncomputable def TY(P:Params):Obj:=⟨(.type "type"),none,(.cls ⟨aL,[(.type "ValueError")],[(.ref 38),(.type "ValueError"),(.type "Exception"),(.type "BaseException"),(.type "object")],37,aL,true,[],[(.ref 58),(.ref 77),(.ref 96),(.ref 115),(.ref 134),(.ref 153),(.ref 172),(.ref 191),(.ref 210)],false,none,false⟩),#[(some (.ref 22)),none,(some (.str aL 196)),(some (.str aL 204)),(some (.builtin "ValueError.__new__")),(some (.bool true))]⟩
noncomputable def qw(P:Params):Obj:=⟨(.type "tuple"),none,(.seq #[(.ref 38)] 0),#[]⟩
noncomputable def FK(P:Params):Obj:=⟨(.type "builtin_function_or_method"),none,(.fields #[(.builtin "type.__prepare__"),(.type "type")]),#[]⟩
noncomputable def Iq(P:Params):Obj:=⟨(.type "dict"),none,(.dict #[⟨(PyData.keyHash P bC),(.str bC 412),(.str bf 194)⟩,⟨(PyData.keyHash P dF),(.str dF 414),(.str dQ 413)⟩,⟨(PyData.keyHash P bE),(.str bE 416),(.int (.ofNat 41) 415)⟩,⟨(PyData.keyHash P aJ),(.str aJ 423),(.ref 207)⟩,⟨(PyData.keyHash P bD),(.str bD 424),(.ref 208)⟩] 5),#[]⟩
noncomputable def HG(P:Params):Obj:=⟨(.type "tuple"),none,(.seq #[] 0),#[]⟩
noncomputable def Fi(P:Params):Obj:=⟨.none,none,(.fields #[(HD.i 43),(HD.i 4),(.ref 206)]),#[]⟩
noncomputable def ED(P:Params):Obj:=⟨(.type "code"),none,(.fields #[(.str dQ 407),(.str dQ 408),(.str aw 409),(HD.i 41),(HD.i 0),(HD.i 0),(HD.i 0),(HD.i 0),(.ref 197),(.bool false),(HD.i 181),(.ref 198), .none, .none, .none, .none,(HD.i 410),(HD.i 41),(.str aw 411)]),#[]⟩
noncomputable def Fg(P:Params):Obj:=⟨(.type "frame"),none, .plain,#[(some (.ref 199)),(some (.ref 3)),(some (.ref 196)),none,(some (.str bf 194)),none,(some (.ref 0))]⟩
noncomputable def pK(P:Params):Obj:=⟨(.type "tuple"),none,(.seq #[] 0),#[]⟩
noncomputable def Ee(P:Params):Obj:=⟨.none,none,(.fields #[]),#[]⟩
noncomputable def uJ(P:Params):Obj:=⟨(.type "tuple"),none,(.seq #[(.str js 420)] 0),#[]⟩
noncomputable def uK(P:Params):Obj:=⟨(.type "tuple"),none,(.seq #[] 0),#[]⟩
noncomputable def He(P:Params):Obj:=⟨.none,none,(.func ⟨aJ,SQ,L2.ak (L2.inClass (ht 11) 0), .stmts (L2.ai (L2.inClass (ht 11) 0)),L2.ae (L2.inClass (ht 11) 0),0,[], .none, .none, .none, .none,none, .none, .none,0⟩),#[]⟩
noncomputable def rR(P:Params):Obj:=⟨(.type "code"),none,(.fields #[(.str aJ 417),(.str SQ 418),(.str aw 419),(HD.i 43),(HD.i 1),(HD.i 0),(HD.i 0),(HD.i 3),(.ref 201),(.bool true),(HD.i 181),(.ref 202), .none,(.ref 203),(.ref 204),(.ref 205),(HD.i 421),(HD.i 43),(.str aw 422)]),#[]⟩
noncomputable def tZ(P:Params):Obj:=⟨(.type "function"),none,(.func ⟨aJ,SQ,L2.ak (L2.inClass (ht 11) 0), .stmts (L2.ai (L2.inClass (ht 11) 0)),L2.ae (L2.inClass (ht 11) 0),3,[], .none, .none, .none,(.str bf 194),none,(.ref 206), .none,0⟩),#[]⟩
noncomputable def qN(P:Params):Obj:=⟨(.type "tuple"),none,(.seq #[] 0),#[]⟩
noncomputable def sJ(P:Params):Obj:=⟨(.type "dict"),none,(.dict #[⟨(PyData.keyHash P bC),(.str bC 412),(.str bf 194)⟩,⟨(PyData.keyHash P bE),(.str bE 416),(.int (.ofNat 41) 415)⟩,⟨(PyData.keyHash P aJ),(.str aJ 423),(.ref 207)⟩,⟨(PyData.keyHash P bD),(.str bD 424),(.ref 208)⟩,⟨(PyData.keyHash P x2),(.str x2 425), .none⟩] 2),#[]⟩
noncomputable def qj(P:Params):Obj:=⟨(.type "type"),none,(.cls ⟨dQ,[(.ref 38)],[(.ref 210),(.ref 38),(.type "ValueError"),(.type "Exception"),(.type "BaseException"),(.type "object")],209,dQ,true,[],[],false,none,false⟩),#[(some (.ref 194)),none,(some (.str dQ 405)),(some (.str dQ 413)),(some (.builtin "ValueError.__new__")),(some (.bool true))]⟩
noncomputable def Ii(P:Params):Obj:=⟨(.type "super"),none,(.fields #[(.ref 210),(.ref 210),(.ref 210)]),#[]⟩
noncomputable def FE(P:Params):Obj:=⟨(.type "builtin_function_or_method"),none,(.fields #[(.builtin "object.__init_subclass__"),(.ref 210)]),#[]⟩
noncomputable def Vy:List Stmt:=[ht 11]
noncomputable def T10(P:Params):BT:=(((((((((((((((((((((((T9 P).ins (nat_lit 3) (Yq P)).ins (nat_lit 12) (Sg P)).ins (nat_lit 38) (TY P)).ins (nat_lit 194) (qw P)).ins (nat_lit 195) (FK P)).ins (nat_lit 196) (Iq P)).ins (nat_lit 197) (HG P)).ins (nat_lit 198) (Fi P)).ins (nat_lit 199) (ED P)).ins (nat_lit 200) (Fg P)).ins (nat_lit 201) (pK P)).ins (nat_lit 202) (Ee P)).ins (nat_lit 203) (uJ P)).ins (nat_lit 204) (uK P)).ins (nat_lit 205) (He P)).ins (nat_lit 206) (rR P)).ins (nat_lit 207) (tZ P)).ins (nat_lit 208) (qN P)).ins (nat_lit 209) (sJ P)).ins (nat_lit 210) (qj P)).ins (nat_lit 211) (Ii P)).ins (nat_lit 212) (FE P))
noncomputable def aaL:Life:=⟨[],[],[],0,[],[],false,#[],[],0,false,false,false,(.ofNat 0),[(.ofNat 2000),(.ofNat 10),(.ofNat 10)],false,0,true,[],[],0,false⟩
noncomputable abbrev VJ(w:World)(os:OsState):SharedT:=⟨T10 w.params,nat_lit 213,aaL,Array.mk [],⟨0,0,0,0⟩,nat_lit 428,os⟩
noncomputable def QC(w:World):(OsState->Option (Flow×SharedT×Code×Pos))×(OsState->Option (Flow×SharedT×Code×Pos)):=(λos=>segRunT treeTable pw w (nat_lit 11) (some (.ref 6)) (nat_lit 1) (nat_lit 244) (S9 w os) (piecesOf Vy hE hC ⟨37,0,40,16⟩ hB),λos=>some (Flow.next,VJ w os,hC,⟨41,0,44,16⟩))
theorem Sv:HD.seg pw (nat_lit 11) (some (.ref 6)) (nat_lit 244) S9 VJ Vy hE hC ⟨37,0,40,16⟩ ⟨41,0,44,16⟩ hB=QC:=by kernel_rfl
name_quick My for QC by Sv
theorem i10(w:World):(Fast.My w).1=(Fast.My w).2:=by kernel_rfl
theorem h10:HD.Ok (HD.seg pw (nat_lit 11) (some (.ref 6)) (nat_lit 244) S9 VJ Vy hE hC ⟨37,0,40,16⟩ ⟨41,0,44,16⟩ hB):=HD.gc Fast.My_eq i10
noncomputable def Xy(P:Params):Obj:=⟨(.type "dict"),none,(.dict #[⟨(PyData.keyHash P x0),(.str x0 165),(.str bf 194)⟩,⟨(PyData.keyHash P x2),(.str x2 166), .none⟩,⟨(PyData.keyHash P x3),(.str x3 167), .none⟩,⟨(PyData.keyHash P x4),(.str x4 168),(.builtin "__main__.__loader__#opaque")⟩,⟨(PyData.keyHash P x5),(.str x5 169), .none⟩,⟨(PyData.keyHash P cC),(.str cC 170),(.ref 6)⟩,⟨(PyData.keyHash P cA),(.str cA 171),(.ref 4)⟩,⟨(PyData.keyHash P cB),(.str cB 173),(.str aw 172)⟩,⟨(PyData.keyHash P cD),(.str cD 174), .none⟩,⟨(PyData.keyHash P bY),(.str bY 193),(.ref 21)⟩,⟨(PyData.keyHash P aL),(.str aL 220),(.ref 38)⟩,⟨(PyData.keyHash P bZ),(.str bZ 243),(.ref 58)⟩,⟨(PyData.keyHash P ck),(.str ck 266),(.ref 77)⟩,⟨(PyData.keyHash P cy),(.str cy 289),(.ref 96)⟩,⟨(PyData.keyHash P cG),(.str cG 312),(.ref 115)⟩,⟨(PyData.keyHash P cK),(.str cK 335),(.ref 134)⟩,⟨(PyData.keyHash P cO),(.str cO 358),(.ref 153)⟩,⟨(PyData.keyHash P c9),(.str c9 381),(.ref 172)⟩,⟨(PyData.keyHash P dy),(.str dy 404),(.ref 191)⟩,⟨(PyData.keyHash P dQ),(.str dQ 427),(.ref 210)⟩,⟨(PyData.keyHash P en),(.str en 450),(.ref 229)⟩] 21),#[]⟩
noncomputable def Uw(P:Params):Obj:=⟨.none,none,(.fields #[(HD.i 1),(HD.i 0),(.ref 20),(HD.i 5),(HD.i 0),(.ref 27),(HD.i 9),(HD.i 0),(.ref 47),(HD.i 13),(HD.i 0),(.ref 66),(HD.i 17),(HD.i 0),(.ref 85),(HD.i 21),(HD.i 0),(.ref 104),(HD.i 25),(HD.i 0),(.ref 123),(HD.i 29),(HD.i 0),(.ref 142),(HD.i 33),(HD.i 0),(.ref 161),(HD.i 37),(HD.i 0),(.ref 180),(HD.i 41),(HD.i 0),(.ref 199),(HD.i 45),(HD.i 0),(.ref 218)]),#[]⟩
noncomputable def TZ(P:Params):Obj:=⟨(.type "type"),none,(.cls ⟨aL,[(.type "ValueError")],[(.ref 38),(.type "ValueError"),(.type "Exception"),(.type "BaseException"),(.type "object")],37,aL,true,[],[(.ref 58),(.ref 77),(.ref 96),(.ref 115),(.ref 134),(.ref 153),(.ref 172),(.ref 191),(.ref 210),(.ref 229)],false,none,false⟩),#[(some (.ref 22)),none,(some (.str aL 196)),(some (.str aL 204)),(some (.builtin "ValueError.__new__")),(some (.bool true))]⟩
noncomputable def tE(P:Params):Obj:=⟨(.type "tuple"),none,(.seq #[(.ref 38)] 0),#[]⟩
noncomputable def FL(P:Params):Obj:=⟨(.type "builtin_function_or_method"),none,(.fields #[(.builtin "type.__prepare__"),(.type "type")]),#[]⟩
noncomputable def HL(P:Params):Obj:=⟨(.type "dict"),none,(.dict #[⟨(PyData.keyHash P bC),(.str bC 435),(.str bf 194)⟩,⟨(PyData.keyHash P dF),(.str dF 437),(.str en 436)⟩,⟨(PyData.keyHash P bE),(.str bE 439),(.int (.ofNat 45) 438)⟩,⟨(PyData.keyHash P aJ),(.str aJ 446),(.ref 226)⟩,⟨(PyData.keyHash P bD),(.str bD 447),(.ref 227)⟩] 5),#[]⟩
noncomputable def HJ(P:Params):Obj:=⟨(.type "tuple"),none,(.seq #[] 0),#[]⟩
noncomputable def FU(P:Params):Obj:=⟨.none,none,(.fields #[(HD.i 47),(HD.i 4),(.ref 225)]),#[]⟩
noncomputable def Gg(P:Params):Obj:=⟨(.type "code"),none,(.fields #[(.str en 430),(.str en 431),(.str aw 432),(HD.i 45),(HD.i 0),(HD.i 0),(HD.i 0),(HD.i 0),(.ref 216),(.bool false),(HD.i 181),(.ref 217), .none, .none, .none, .none,(HD.i 433),(HD.i 45),(.str aw 434)]),#[]⟩
noncomputable def Fp(P:Params):Obj:=⟨(.type "frame"),none, .plain,#[(some (.ref 218)),(some (.ref 3)),(some (.ref 215)),none,(some (.str bf 194)),none,(some (.ref 0))]⟩
noncomputable def pB(P:Params):Obj:=⟨(.type "tuple"),none,(.seq #[] 0),#[]⟩
noncomputable def Gi(P:Params):Obj:=⟨.none,none,(.fields #[]),#[]⟩
noncomputable def oo(P:Params):Obj:=⟨(.type "tuple"),none,(.seq #[(.str js 443)] 0),#[]⟩
noncomputable def so(P:Params):Obj:=⟨(.type "tuple"),none,(.seq #[] 0),#[]⟩
noncomputable def Ge(P:Params):Obj:=⟨.none,none,(.func ⟨aJ,Tu,L2.ak (L2.inClass (ht 12) 0), .stmts (L2.ai (L2.inClass (ht 12) 0)),L2.ae (L2.inClass (ht 12) 0),0,[], .none, .none, .none, .none,none, .none, .none,0⟩),#[]⟩
noncomputable def sR(P:Params):Obj:=⟨(.type "code"),none,(.fields #[(.str aJ 440),(.str Tu 441),(.str aw 442),(HD.i 47),(HD.i 1),(HD.i 0),(HD.i 0),(HD.i 3),(.ref 220),(.bool true),(HD.i 181),(.ref 221), .none,(.ref 222),(.ref 223),(.ref 224),(HD.i 444),(HD.i 47),(.str aw 445)]),#[]⟩
noncomputable def pX(P:Params):Obj:=⟨(.type "function"),none,(.func ⟨aJ,Tu,L2.ak (L2.inClass (ht 12) 0), .stmts (L2.ai (L2.inClass (ht 12) 0)),L2.ae (L2.inClass (ht 12) 0),3,[], .none, .none, .none,(.str bf 194),none,(.ref 225), .none,0⟩),#[]⟩
noncomputable def sj(P:Params):Obj:=⟨(.type "tuple"),none,(.seq #[] 0),#[]⟩
noncomputable def tL(P:Params):Obj:=⟨(.type "dict"),none,(.dict #[⟨(PyData.keyHash P bC),(.str bC 435),(.str bf 194)⟩,⟨(PyData.keyHash P bE),(.str bE 439),(.int (.ofNat 45) 438)⟩,⟨(PyData.keyHash P aJ),(.str aJ 446),(.ref 226)⟩,⟨(PyData.keyHash P bD),(.str bD 447),(.ref 227)⟩,⟨(PyData.keyHash P x2),(.str x2 448), .none⟩] 2),#[]⟩
noncomputable def sL(P:Params):Obj:=⟨(.type "type"),none,(.cls ⟨en,[(.ref 38)],[(.ref 229),(.ref 38),(.type "ValueError"),(.type "Exception"),(.type "BaseException"),(.type "object")],228,en,true,[],[],false,none,false⟩),#[(some (.ref 213)),none,(some (.str en 428)),(some (.str en 436)),(some (.builtin "ValueError.__new__")),(some (.bool true))]⟩
noncomputable def Hb(P:Params):Obj:=⟨(.type "super"),none,(.fields #[(.ref 229),(.ref 229),(.ref 229)]),#[]⟩
noncomputable def EY(P:Params):Obj:=⟨(.type "builtin_function_or_method"),none,(.fields #[(.builtin "object.__init_subclass__"),(.ref 229)]),#[]⟩
noncomputable def VO:List Stmt:=[ht 12]
noncomputable def T11(P:Params):BT:=(((((((((((((((((((((((T10 P).ins (nat_lit 3) (Xy P)).ins (nat_lit 12) (Uw P)).ins (nat_lit 38) (TZ P)).ins (nat_lit 213) (tE P)).ins (nat_lit 214) (FL P)).ins (nat_lit 215) (HL P)).ins (nat_lit 216) (HJ P)).ins (nat_lit 217) (FU P)).ins (nat_lit 218) (Gg P)).ins (nat_lit 219) (Fp P)).ins (nat_lit 220) (pB P)).ins (nat_lit 221) (Gi P)).ins (nat_lit 222) (oo P)).ins (nat_lit 223) (so P)).ins (nat_lit 224) (Ge P)).ins (nat_lit 225) (sR P)).ins (nat_lit 226) (pX P)).ins (nat_lit 227) (sj P)).ins (nat_lit 228) (tL P)).ins (nat_lit 229) (sL P)).ins (nat_lit 230) (Hb P)).ins (nat_lit 231) (EY P))
noncomputable def abf:Life:=⟨[],[],[],0,[],[],false,#[],[],0,false,false,false,(.ofNat 0),[(.ofNat 2000),(.ofNat 10),(.ofNat 10)],false,0,true,[],[],0,false⟩
noncomputable abbrev VG(w:World)(os:OsState):SharedT:=⟨T11 w.params,nat_lit 232,abf,Array.mk [],⟨0,0,0,0⟩,nat_lit 451,os⟩
noncomputable def q11(w:World):(OsState->Option (Flow×SharedT×Code×Pos))×(OsState->Option (Flow×SharedT×Code×Pos)):=(λos=>segRunT treeTable pw w (nat_lit 11) (some (.ref 6)) (nat_lit 1) (nat_lit 244) (VJ w os) (piecesOf VO hE hC ⟨41,0,44,16⟩ hB),λos=>some (Flow.next,VG w os,hC,⟨45,0,48,17⟩))
theorem SW:HD.seg pw (nat_lit 11) (some (.ref 6)) (nat_lit 244) VJ VG VO hE hC ⟨41,0,44,16⟩ ⟨45,0,48,17⟩ hB=q11:=by kernel_rfl
name_quick NS for q11 by SW
theorem i11(w:World):(Fast.NS w).1=(Fast.NS w).2:=by kernel_rfl
theorem h11:HD.Ok (HD.seg pw (nat_lit 11) (some (.ref 6)) (nat_lit 244) VJ VG VO hE hC ⟨41,0,44,16⟩ ⟨45,0,48,17⟩ hB):=HD.gc Fast.NS_eq i11
noncomputable def Xh(P:Params):Obj:=⟨(.type "dict"),none,(.dict #[⟨(PyData.keyHash P x0),(.str x0 165),(.str bf 194)⟩,⟨(PyData.keyHash P x2),(.str x2 166), .none⟩,⟨(PyData.keyHash P x3),(.str x3 167), .none⟩,⟨(PyData.keyHash P x4),(.str x4 168),(.builtin "__main__.__loader__#opaque")⟩,⟨(PyData.keyHash P x5),(.str x5 169), .none⟩,⟨(PyData.keyHash P cC),(.str cC 170),(.ref 6)⟩,⟨(PyData.keyHash P cA),(.str cA 171),(.ref 4)⟩,⟨(PyData.keyHash P cB),(.str cB 173),(.str aw 172)⟩,⟨(PyData.keyHash P cD),(.str cD 174), .none⟩,⟨(PyData.keyHash P bY),(.str bY 193),(.ref 21)⟩,⟨(PyData.keyHash P aL),(.str aL 220),(.ref 38)⟩,⟨(PyData.keyHash P bZ),(.str bZ 243),(.ref 58)⟩,⟨(PyData.keyHash P ck),(.str ck 266),(.ref 77)⟩,⟨(PyData.keyHash P cy),(.str cy 289),(.ref 96)⟩,⟨(PyData.keyHash P cG),(.str cG 312),(.ref 115)⟩,⟨(PyData.keyHash P cK),(.str cK 335),(.ref 134)⟩,⟨(PyData.keyHash P cO),(.str cO 358),(.ref 153)⟩,⟨(PyData.keyHash P c9),(.str c9 381),(.ref 172)⟩,⟨(PyData.keyHash P dy),(.str dy 404),(.ref 191)⟩,⟨(PyData.keyHash P dQ),(.str dQ 427),(.ref 210)⟩,⟨(PyData.keyHash P en),(.str en 450),(.ref 229)⟩,⟨(PyData.keyHash P eL),(.str eL 473),(.ref 248)⟩] 22),#[]⟩
noncomputable def U5(P:Params):Obj:=⟨.none,none,(.fields #[(HD.i 1),(HD.i 0),(.ref 20),(HD.i 5),(HD.i 0),(.ref 27),(HD.i 9),(HD.i 0),(.ref 47),(HD.i 13),(HD.i 0),(.ref 66),(HD.i 17),(HD.i 0),(.ref 85),(HD.i 21),(HD.i 0),(.ref 104),(HD.i 25),(HD.i 0),(.ref 123),(HD.i 29),(HD.i 0),(.ref 142),(HD.i 33),(HD.i 0),(.ref 161),(HD.i 37),(HD.i 0),(.ref 180),(HD.i 41),(HD.i 0),(.ref 199),(HD.i 45),(HD.i 0),(.ref 218),(HD.i 49),(HD.i 0),(.ref 237)]),#[]⟩
noncomputable def Sr(P:Params):Obj:=⟨(.type "type"),none,(.cls ⟨aL,[(.type "ValueError")],[(.ref 38),(.type "ValueError"),(.type "Exception"),(.type "BaseException"),(.type "object")],37,aL,true,[],[(.ref 58),(.ref 77),(.ref 96),(.ref 115),(.ref 134),(.ref 153),(.ref 172),(.ref 191),(.ref 210),(.ref 229),(.ref 248)],false,none,false⟩),#[(some (.ref 22)),none,(some (.str aL 196)),(some (.str aL 204)),(some (.builtin "ValueError.__new__")),(some (.bool true))]⟩
noncomputable def ow(P:Params):Obj:=⟨(.type "tuple"),none,(.seq #[(.ref 38)] 0),#[]⟩
noncomputable def Hj(P:Params):Obj:=⟨(.type "builtin_function_or_method"),none,(.fields #[(.builtin "type.__prepare__"),(.type "type")]),#[]⟩
noncomputable def FI(P:Params):Obj:=⟨(.type "dict"),none,(.dict #[⟨(PyData.keyHash P bC),(.str bC 458),(.str bf 194)⟩,⟨(PyData.keyHash P dF),(.str dF 460),(.str eL 459)⟩,⟨(PyData.keyHash P bE),(.str bE 462),(.int (.ofNat 49) 461)⟩,⟨(PyData.keyHash P aJ),(.str aJ 469),(.ref 245)⟩,⟨(PyData.keyHash P bD),(.str bD 470),(.ref 246)⟩] 5),#[]⟩
noncomputable def F2(P:Params):Obj:=⟨(.type "tuple"),none,(.seq #[] 0),#[]⟩
noncomputable def Ej(P:Params):Obj:=⟨.none,none,(.fields #[(HD.i 51),(HD.i 4),(.ref 244)]),#[]⟩
noncomputable def HI(P:Params):Obj:=⟨(.type "code"),none,(.fields #[(.str eL 453),(.str eL 454),(.str aw 455),(HD.i 49),(HD.i 0),(HD.i 0),(HD.i 0),(HD.i 0),(.ref 235),(.bool false),(HD.i 181),(.ref 236), .none, .none, .none, .none,(HD.i 456),(HD.i 49),(.str aw 457)]),#[]⟩
noncomputable def Fb(P:Params):Obj:=⟨(.type "frame"),none, .plain,#[(some (.ref 237)),(some (.ref 3)),(some (.ref 234)),none,(some (.str bf 194)),none,(some (.ref 0))]⟩
noncomputable def pW(P:Params):Obj:=⟨(.type "tuple"),none,(.seq #[] 0),#[]⟩
noncomputable def HC(P:Params):Obj:=⟨.none,none,(.fields #[]),#[]⟩
noncomputable def tU(P:Params):Obj:=⟨(.type "tuple"),none,(.seq #[(.str js 466)] 0),#[]⟩
noncomputable def o9(P:Params):Obj:=⟨(.type "tuple"),none,(.seq #[] 0),#[]⟩
noncomputable def FZ(P:Params):Obj:=⟨.none,none,(.func ⟨aJ,SF,L2.ak (L2.inClass (ht 13) 0), .stmts (L2.ai (L2.inClass (ht 13) 0)),L2.ae (L2.inClass (ht 13) 0),0,[], .none, .none, .none, .none,none, .none, .none,0⟩),#[]⟩
noncomputable def oO(P:Params):Obj:=⟨(.type "code"),none,(.fields #[(.str aJ 463),(.str SF 464),(.str aw 465),(HD.i 51),(HD.i 1),(HD.i 0),(HD.i 0),(HD.i 3),(.ref 239),(.bool true),(HD.i 181),(.ref 240), .none,(.ref 241),(.ref 242),(.ref 243),(HD.i 467),(HD.i 51),(.str aw 468)]),#[]⟩
noncomputable def nQ(P:Params):Obj:=⟨(.type "function"),none,(.func ⟨aJ,SF,L2.ak (L2.inClass (ht 13) 0), .stmts (L2.ai (L2.inClass (ht 13) 0)),L2.ae (L2.inClass (ht 13) 0),3,[], .none, .none, .none,(.str bf 194),none,(.ref 244), .none,0⟩),#[]⟩
noncomputable def tm(P:Params):Obj:=⟨(.type "tuple"),none,(.seq #[] 0),#[]⟩
noncomputable def rH(P:Params):Obj:=⟨(.type "dict"),none,(.dict #[⟨(PyData.keyHash P bC),(.str bC 458),(.str bf 194)⟩,⟨(PyData.keyHash P bE),(.str bE 462),(.int (.ofNat 49) 461)⟩,⟨(PyData.keyHash P aJ),(.str aJ 469),(.ref 245)⟩,⟨(PyData.keyHash P bD),(.str bD 470),(.ref 246)⟩,⟨(PyData.keyHash P x2),(.str x2 471), .none⟩] 2),#[]⟩
noncomputable def qL(P:Params):Obj:=⟨(.type "type"),none,(.cls ⟨eL,[(.ref 38)],[(.ref 248),(.ref 38),(.type "ValueError"),(.type "Exception"),(.type "BaseException"),(.type "object")],247,eL,true,[],[],false,none,false⟩),#[(some (.ref 232)),none,(some (.str eL 451)),(some (.str eL 459)),(some (.builtin "ValueError.__new__")),(some (.bool true))]⟩
noncomputable def Fw(P:Params):Obj:=⟨(.type "super"),none,(.fields #[(.ref 248),(.ref 248),(.ref 248)]),#[]⟩
noncomputable def Hq(P:Params):Obj:=⟨(.type "builtin_function_or_method"),none,(.fields #[(.builtin "object.__init_subclass__"),(.ref 248)]),#[]⟩
noncomputable def VL:List Stmt:=[ht 13]
noncomputable def T12(P:Params):BT:=(((((((((((((((((((((((T11 P).ins (nat_lit 3) (Xh P)).ins (nat_lit 12) (U5 P)).ins (nat_lit 38) (Sr P)).ins (nat_lit 232) (ow P)).ins (nat_lit 233) (Hj P)).ins (nat_lit 234) (FI P)).ins (nat_lit 235) (F2 P)).ins (nat_lit 236) (Ej P)).ins (nat_lit 237) (HI P)).ins (nat_lit 238) (Fb P)).ins (nat_lit 239) (pW P)).ins (nat_lit 240) (HC P)).ins (nat_lit 241) (tU P)).ins (nat_lit 242) (o9 P)).ins (nat_lit 243) (FZ P)).ins (nat_lit 244) (oO P)).ins (nat_lit 245) (nQ P)).ins (nat_lit 246) (tm P)).ins (nat_lit 247) (rH P)).ins (nat_lit 248) (qL P)).ins (nat_lit 249) (Fw P)).ins (nat_lit 250) (Hq P))
noncomputable def abt:Life:=⟨[],[],[],0,[],[],false,#[],[],0,false,false,false,(.ofNat 0),[(.ofNat 2000),(.ofNat 10),(.ofNat 10)],false,0,true,[],[],0,false⟩
noncomputable abbrev V4(w:World)(os:OsState):SharedT:=⟨T12 w.params,nat_lit 251,abt,Array.mk [],⟨0,0,0,0⟩,nat_lit 474,os⟩
noncomputable def q12(w:World):(OsState->Option (Flow×SharedT×Code×Pos))×(OsState->Option (Flow×SharedT×Code×Pos)):=(λos=>segRunT treeTable pw w (nat_lit 11) (some (.ref 6)) (nat_lit 1) (nat_lit 244) (VG w os) (piecesOf VL hE hC ⟨45,0,48,17⟩ hB),λos=>some (Flow.next,V4 w os,hC,⟨49,0,52,17⟩))
theorem SN:HD.seg pw (nat_lit 11) (some (.ref 6)) (nat_lit 244) VG V4 VL hE hC ⟨45,0,48,17⟩ ⟨49,0,52,17⟩ hB=q12:=by kernel_rfl
name_quick L6 for q12 by SN
theorem i12(w:World):(Fast.L6 w).1=(Fast.L6 w).2:=by kernel_rfl
theorem h12:HD.Ok (HD.seg pw (nat_lit 11) (some (.ref 6)) (nat_lit 244) VG V4 VL hE hC ⟨45,0,48,17⟩ ⟨49,0,52,17⟩ hB):=HD.gc Fast.L6_eq i12
noncomputable def YB(P:Params):Obj:=⟨(.type "dict"),none,(.dict #[⟨(PyData.keyHash P x0),(.str x0 165),(.str bf 194)⟩,⟨(PyData.keyHash P x2),(.str x2 166), .none⟩,⟨(PyData.keyHash P x3),(.str x3 167), .none⟩,⟨(PyData.keyHash P x4),(.str x4 168),(.builtin "__main__.__loader__#opaque")⟩,⟨(PyData.keyHash P x5),(.str x5 169), .none⟩,⟨(PyData.keyHash P cC),(.str cC 170),(.ref 6)⟩,⟨(PyData.keyHash P cA),(.str cA 171),(.ref 4)⟩,⟨(PyData.keyHash P cB),(.str cB 173),(.str aw 172)⟩,⟨(PyData.keyHash P cD),(.str cD 174), .none⟩,⟨(PyData.keyHash P bY),(.str bY 193),(.ref 21)⟩,⟨(PyData.keyHash P aL),(.str aL 220),(.ref 38)⟩,⟨(PyData.keyHash P bZ),(.str bZ 243),(.ref 58)⟩,⟨(PyData.keyHash P ck),(.str ck 266),(.ref 77)⟩,⟨(PyData.keyHash P cy),(.str cy 289),(.ref 96)⟩,⟨(PyData.keyHash P cG),(.str cG 312),(.ref 115)⟩,⟨(PyData.keyHash P cK),(.str cK 335),(.ref 134)⟩,⟨(PyData.keyHash P cO),(.str cO 358),(.ref 153)⟩,⟨(PyData.keyHash P c9),(.str c9 381),(.ref 172)⟩,⟨(PyData.keyHash P dy),(.str dy 404),(.ref 191)⟩,⟨(PyData.keyHash P dQ),(.str dQ 427),(.ref 210)⟩,⟨(PyData.keyHash P en),(.str en 450),(.ref 229)⟩,⟨(PyData.keyHash P eL),(.str eL 473),(.ref 248)⟩,⟨(PyData.keyHash P fe),(.str fe 496),(.ref 267)⟩] 23),#[]⟩
noncomputable def UC(P:Params):Obj:=⟨.none,none,(.fields #[(HD.i 1),(HD.i 0),(.ref 20),(HD.i 5),(HD.i 0),(.ref 27),(HD.i 9),(HD.i 0),(.ref 47),(HD.i 13),(HD.i 0),(.ref 66),(HD.i 17),(HD.i 0),(.ref 85),(HD.i 21),(HD.i 0),(.ref 104),(HD.i 25),(HD.i 0),(.ref 123),(HD.i 29),(HD.i 0),(.ref 142),(HD.i 33),(HD.i 0),(.ref 161),(HD.i 37),(HD.i 0),(.ref 180),(HD.i 41),(HD.i 0),(.ref 199),(HD.i 45),(HD.i 0),(.ref 218),(HD.i 49),(HD.i 0),(.ref 237),(HD.i 53),(HD.i 0),(.ref 256)]),#[]⟩
noncomputable def Se(P:Params):Obj:=⟨(.type "type"),none,(.cls ⟨aL,[(.type "ValueError")],[(.ref 38),(.type "ValueError"),(.type "Exception"),(.type "BaseException"),(.type "object")],37,aL,true,[],[(.ref 58),(.ref 77),(.ref 96),(.ref 115),(.ref 134),(.ref 153),(.ref 172),(.ref 191),(.ref 210),(.ref 229),(.ref 248),(.ref 267)],false,none,false⟩),#[(some (.ref 22)),none,(some (.str aL 196)),(some (.str aL 204)),(some (.builtin "ValueError.__new__")),(some (.bool true))]⟩
noncomputable def uq(P:Params):Obj:=⟨(.type "tuple"),none,(.seq #[(.ref 38)] 0),#[]⟩
noncomputable def Gu(P:Params):Obj:=⟨(.type "builtin_function_or_method"),none,(.fields #[(.builtin "type.__prepare__"),(.type "type")]),#[]⟩
noncomputable def Gk(P:Params):Obj:=⟨(.type "dict"),none,(.dict #[⟨(PyData.keyHash P bC),(.str bC 481),(.str bf 194)⟩,⟨(PyData.keyHash P dF),(.str dF 483),(.str fe 482)⟩,⟨(PyData.keyHash P bE),(.str bE 485),(.int (.ofNat 53) 484)⟩,⟨(PyData.keyHash P aJ),(.str aJ 492),(.ref 264)⟩,⟨(PyData.keyHash P bD),(.str bD 493),(.ref 265)⟩] 5),#[]⟩
noncomputable def GJ(P:Params):Obj:=⟨(.type "tuple"),none,(.seq #[] 0),#[]⟩
noncomputable def Ga(P:Params):Obj:=⟨.none,none,(.fields #[(HD.i 55),(HD.i 4),(.ref 263)]),#[]⟩
noncomputable def FJ(P:Params):Obj:=⟨(.type "code"),none,(.fields #[(.str fe 476),(.str fe 477),(.str aw 478),(HD.i 53),(HD.i 0),(HD.i 0),(HD.i 0),(HD.i 0),(.ref 254),(.bool false),(HD.i 181),(.ref 255), .none, .none, .none, .none,(HD.i 479),(HD.i 53),(.str aw 480)]),#[]⟩
noncomputable def G9(P:Params):Obj:=⟨(.type "frame"),none, .plain,#[(some (.ref 256)),(some (.ref 3)),(some (.ref 253)),none,(some (.str bf 194)),none,(some (.ref 0))]⟩
noncomputable def nR(P:Params):Obj:=⟨(.type "tuple"),none,(.seq #[] 0),#[]⟩
noncomputable def HA(P:Params):Obj:=⟨.none,none,(.fields #[]),#[]⟩
noncomputable def pD(P:Params):Obj:=⟨(.type "tuple"),none,(.seq #[(.str js 489)] 0),#[]⟩
noncomputable def pO(P:Params):Obj:=⟨(.type "tuple"),none,(.seq #[] 0),#[]⟩
noncomputable def Ft(P:Params):Obj:=⟨.none,none,(.func ⟨aJ,R8,L2.ak (L2.inClass (ht 14) 0), .stmts (L2.ai (L2.inClass (ht 14) 0)),L2.ae (L2.inClass (ht 14) 0),0,[], .none, .none, .none, .none,none, .none, .none,0⟩),#[]⟩
noncomputable def uu(P:Params):Obj:=⟨(.type "code"),none,(.fields #[(.str aJ 486),(.str R8 487),(.str aw 488),(HD.i 55),(HD.i 1),(HD.i 0),(HD.i 0),(HD.i 3),(.ref 258),(.bool true),(HD.i 181),(.ref 259), .none,(.ref 260),(.ref 261),(.ref 262),(HD.i 490),(HD.i 55),(.str aw 491)]),#[]⟩
noncomputable def qm(P:Params):Obj:=⟨(.type "function"),none,(.func ⟨aJ,R8,L2.ak (L2.inClass (ht 14) 0), .stmts (L2.ai (L2.inClass (ht 14) 0)),L2.ae (L2.inClass (ht 14) 0),3,[], .none, .none, .none,(.str bf 194),none,(.ref 263), .none,0⟩),#[]⟩
noncomputable def tO(P:Params):Obj:=⟨(.type "tuple"),none,(.seq #[] 0),#[]⟩
noncomputable def uR(P:Params):Obj:=⟨(.type "dict"),none,(.dict #[⟨(PyData.keyHash P bC),(.str bC 481),(.str bf 194)⟩,⟨(PyData.keyHash P bE),(.str bE 485),(.int (.ofNat 53) 484)⟩,⟨(PyData.keyHash P aJ),(.str aJ 492),(.ref 264)⟩,⟨(PyData.keyHash P bD),(.str bD 493),(.ref 265)⟩,⟨(PyData.keyHash P x2),(.str x2 494), .none⟩] 2),#[]⟩
noncomputable def nY(P:Params):Obj:=⟨(.type "type"),none,(.cls ⟨fe,[(.ref 38)],[(.ref 267),(.ref 38),(.type "ValueError"),(.type "Exception"),(.type "BaseException"),(.type "object")],266,fe,true,[],[],false,none,false⟩),#[(some (.ref 251)),none,(some (.str fe 474)),(some (.str fe 482)),(some (.builtin "ValueError.__new__")),(some (.bool true))]⟩
noncomputable def GS(P:Params):Obj:=⟨(.type "super"),none,(.fields #[(.ref 267),(.ref 267),(.ref 267)]),#[]⟩
noncomputable def HM(P:Params):Obj:=⟨(.type "builtin_function_or_method"),none,(.fields #[(.builtin "object.__init_subclass__"),(.ref 267)]),#[]⟩
noncomputable def VF:List Stmt:=[ht 14]
noncomputable def T13(P:Params):BT:=(((((((((((((((((((((((T12 P).ins (nat_lit 3) (YB P)).ins (nat_lit 12) (UC P)).ins (nat_lit 38) (Se P)).ins (nat_lit 251) (uq P)).ins (nat_lit 252) (Gu P)).ins (nat_lit 253) (Gk P)).ins (nat_lit 254) (GJ P)).ins (nat_lit 255) (Ga P)).ins (nat_lit 256) (FJ P)).ins (nat_lit 257) (G9 P)).ins (nat_lit 258) (nR P)).ins (nat_lit 259) (HA P)).ins (nat_lit 260) (pD P)).ins (nat_lit 261) (pO P)).ins (nat_lit 262) (Ft P)).ins (nat_lit 263) (uu P)).ins (nat_lit 264) (qm P)).ins (nat_lit 265) (tO P)).ins (nat_lit 266) (uR P)).ins (nat_lit 267) (nY P)).ins (nat_lit 268) (GS P)).ins (nat_lit 269) (HM P))
noncomputable def acu:Life:=⟨[],[],[],0,[],[],false,#[],[],0,false,false,false,(.ofNat 0),[(.ofNat 2000),(.ofNat 10),(.ofNat 10)],false,0,true,[],[],0,false⟩
noncomputable abbrev VH(w:World)(os:OsState):SharedT:=⟨T13 w.params,nat_lit 270,acu,Array.mk [],⟨0,0,0,0⟩,nat_lit 497,os⟩
noncomputable def V0(w:World):(OsState->Option (Flow×SharedT×Code×Pos))×(OsState->Option (Flow×SharedT×Code×Pos)):=(λos=>segRunT treeTable pw w (nat_lit 11) (some (.ref 6)) (nat_lit 1) (nat_lit 244) (V4 w os) (piecesOf VF hE hC ⟨49,0,52,17⟩ hB),λos=>some (Flow.next,VH w os,hC,⟨53,0,56,17⟩))
theorem UQ:HD.seg pw (nat_lit 11) (some (.ref 6)) (nat_lit 244) V4 VH VF hE hC ⟨49,0,52,17⟩ ⟨53,0,56,17⟩ hB=V0:=by kernel_rfl
name_quick MN for V0 by UQ
theorem i13(w:World):(Fast.MN w).1=(Fast.MN w).2:=by kernel_rfl
theorem h13:HD.Ok (HD.seg pw (nat_lit 11) (some (.ref 6)) (nat_lit 244) V4 VH VF hE hC ⟨49,0,52,17⟩ ⟨53,0,56,17⟩ hB):=HD.gc Fast.MN_eq i13
noncomputable def Yz(P:Params):Obj:=⟨(.type "dict"),none,(.dict #[⟨(PyData.keyHash P x0),(.str x0 165),(.str bf 194)⟩,⟨(PyData.keyHash P x2),(.str x2 166), .none⟩,⟨(PyData.keyHash P x3),(.str x3 167), .none⟩,⟨(PyData.keyHash P x4),(.str x4 168),(.builtin "__main__.__loader__#opaque")⟩,⟨(PyData.keyHash P x5),(.str x5 169), .none⟩,⟨(PyData.keyHash P cC),(.str cC 170),(.ref 6)⟩,⟨(PyData.keyHash P cA),(.str cA 171),(.ref 4)⟩,⟨(PyData.keyHash P cB),(.str cB 173),(.str aw 172)⟩,⟨(PyData.keyHash P cD),(.str cD 174), .none⟩,⟨(PyData.keyHash P bY),(.str bY 193),(.ref 21)⟩,⟨(PyData.keyHash P aL),(.str aL 220),(.ref 38)⟩,⟨(PyData.keyHash P bZ),(.str bZ 243),(.ref 58)⟩,⟨(PyData.keyHash P ck),(.str ck 266),(.ref 77)⟩,⟨(PyData.keyHash P cy),(.str cy 289),(.ref 96)⟩,⟨(PyData.keyHash P cG),(.str cG 312),(.ref 115)⟩,⟨(PyData.keyHash P cK),(.str cK 335),(.ref 134)⟩,⟨(PyData.keyHash P cO),(.str cO 358),(.ref 153)⟩,⟨(PyData.keyHash P c9),(.str c9 381),(.ref 172)⟩,⟨(PyData.keyHash P dy),(.str dy 404),(.ref 191)⟩,⟨(PyData.keyHash P dQ),(.str dQ 427),(.ref 210)⟩,⟨(PyData.keyHash P en),(.str en 450),(.ref 229)⟩,⟨(PyData.keyHash P eL),(.str eL 473),(.ref 248)⟩,⟨(PyData.keyHash P fe),(.str fe 496),(.ref 267)⟩,⟨(PyData.keyHash P fP),(.str fP 519),(.ref 286)⟩] 24),#[]⟩
noncomputable def Vd(P:Params):Obj:=⟨.none,none,(.fields #[(HD.i 1),(HD.i 0),(.ref 20),(HD.i 5),(HD.i 0),(.ref 27),(HD.i 9),(HD.i 0),(.ref 47),(HD.i 13),(HD.i 0),(.ref 66),(HD.i 17),(HD.i 0),(.ref 85),(HD.i 21),(HD.i 0),(.ref 104),(HD.i 25),(HD.i 0),(.ref 123),(HD.i 29),(HD.i 0),(.ref 142),(HD.i 33),(HD.i 0),(.ref 161),(HD.i 37),(HD.i 0),(.ref 180),(HD.i 41),(HD.i 0),(.ref 199),(HD.i 45),(HD.i 0),(.ref 218),(HD.i 49),(HD.i 0),(.ref 237),(HD.i 53),(HD.i 0),(.ref 256),(HD.i 57),(HD.i 0),(.ref 275)]),#[]⟩
noncomputable def Uv(P:Params):Obj:=⟨(.type "type"),none,(.cls ⟨aL,[(.type "ValueError")],[(.ref 38),(.type "ValueError"),(.type "Exception"),(.type "BaseException"),(.type "object")],37,aL,true,[],[(.ref 58),(.ref 77),(.ref 96),(.ref 115),(.ref 134),(.ref 153),(.ref 172),(.ref 191),(.ref 210),(.ref 229),(.ref 248),(.ref 267),(.ref 286)],false,none,false⟩),#[(some (.ref 22)),none,(some (.str aL 196)),(some (.str aL 204)),(some (.builtin "ValueError.__new__")),(some (.bool true))]⟩
noncomputable def nS(P:Params):Obj:=⟨(.type "tuple"),none,(.seq #[(.ref 38)] 0),#[]⟩
noncomputable def HW(P:Params):Obj:=⟨(.type "builtin_function_or_method"),none,(.fields #[(.builtin "type.__prepare__"),(.type "type")]),#[]⟩
noncomputable def EN(P:Params):Obj:=⟨(.type "dict"),none,(.dict #[⟨(PyData.keyHash P bC),(.str bC 504),(.str bf 194)⟩,⟨(PyData.keyHash P dF),(.str dF 506),(.str fP 505)⟩,⟨(PyData.keyHash P bE),(.str bE 508),(.int (.ofNat 57) 507)⟩,⟨(PyData.keyHash P aJ),(.str aJ 515),(.ref 283)⟩,⟨(PyData.keyHash P bD),(.str bD 516),(.ref 284)⟩] 5),#[]⟩
noncomputable def GY(P:Params):Obj:=⟨(.type "tuple"),none,(.seq #[] 0),#[]⟩
noncomputable def FO(P:Params):Obj:=⟨.none,none,(.fields #[(HD.i 59),(HD.i 4),(.ref 282)]),#[]⟩
noncomputable def GZ(P:Params):Obj:=⟨(.type "code"),none,(.fields #[(.str fP 499),(.str fP 500),(.str aw 501),(HD.i 57),(HD.i 0),(HD.i 0),(HD.i 0),(HD.i 0),(.ref 273),(.bool false),(HD.i 181),(.ref 274), .none, .none, .none, .none,(HD.i 502),(HD.i 57),(.str aw 503)]),#[]⟩
noncomputable def E2(P:Params):Obj:=⟨(.type "frame"),none, .plain,#[(some (.ref 275)),(some (.ref 3)),(some (.ref 272)),none,(some (.str bf 194)),none,(some (.ref 0))]⟩
noncomputable def qA(P:Params):Obj:=⟨(.type "tuple"),none,(.seq #[] 0),#[]⟩
noncomputable def HY(P:Params):Obj:=⟨.none,none,(.fields #[]),#[]⟩
noncomputable def pV(P:Params):Obj:=⟨(.type "tuple"),none,(.seq #[(.str js 512)] 0),#[]⟩
noncomputable def pC(P:Params):Obj:=⟨(.type "tuple"),none,(.seq #[] 0),#[]⟩
noncomputable def GF(P:Params):Obj:=⟨.none,none,(.func ⟨aJ,UZ,L2.ak (L2.inClass (ht 15) 0), .stmts (L2.ai (L2.inClass (ht 15) 0)),L2.ae (L2.inClass (ht 15) 0),0,[], .none, .none, .none, .none,none, .none, .none,0⟩),#[]⟩
noncomputable def rg(P:Params):Obj:=⟨(.type "code"),none,(.fields #[(.str aJ 509),(.str UZ 510),(.str aw 511),(HD.i 59),(HD.i 1),(HD.i 0),(HD.i 0),(HD.i 3),(.ref 277),(.bool true),(HD.i 181),(.ref 278), .none,(.ref 279),(.ref 280),(.ref 281),(HD.i 513),(HD.i 59),(.str aw 514)]),#[]⟩
noncomputable def uc(P:Params):Obj:=⟨(.type "function"),none,(.func ⟨aJ,UZ,L2.ak (L2.inClass (ht 15) 0), .stmts (L2.ai (L2.inClass (ht 15) 0)),L2.ae (L2.inClass (ht 15) 0),3,[], .none, .none, .none,(.str bf 194),none,(.ref 282), .none,0⟩),#[]⟩
noncomputable def rO(P:Params):Obj:=⟨(.type "tuple"),none,(.seq #[] 0),#[]⟩
noncomputable def ox(P:Params):Obj:=⟨(.type "dict"),none,(.dict #[⟨(PyData.keyHash P bC),(.str bC 504),(.str bf 194)⟩,⟨(PyData.keyHash P bE),(.str bE 508),(.int (.ofNat 57) 507)⟩,⟨(PyData.keyHash P aJ),(.str aJ 515),(.ref 283)⟩,⟨(PyData.keyHash P bD),(.str bD 516),(.ref 284)⟩,⟨(PyData.keyHash P x2),(.str x2 517), .none⟩] 2),#[]⟩
noncomputable def rF(P:Params):Obj:=⟨(.type "type"),none,(.cls ⟨fP,[(.ref 38)],[(.ref 286),(.ref 38),(.type "ValueError"),(.type "Exception"),(.type "BaseException"),(.type "object")],285,fP,true,[],[],false,none,false⟩),#[(some (.ref 270)),none,(some (.str fP 497)),(some (.str fP 505)),(some (.builtin "ValueError.__new__")),(some (.bool true))]⟩
noncomputable def Ir(P:Params):Obj:=⟨(.type "super"),none,(.fields #[(.ref 286),(.ref 286),(.ref 286)]),#[]⟩
noncomputable def G4(P:Params):Obj:=⟨(.type "builtin_function_or_method"),none,(.fields #[(.builtin "object.__init_subclass__"),(.ref 286)]),#[]⟩
noncomputable def g14:List Stmt:=[ht 15]
noncomputable def T14(P:Params):BT:=(((((((((((((((((((((((T13 P).ins (nat_lit 3) (Yz P)).ins (nat_lit 12) (Vd P)).ins (nat_lit 38) (Uv P)).ins (nat_lit 270) (nS P)).ins (nat_lit 271) (HW P)).ins (nat_lit 272) (EN P)).ins (nat_lit 273) (GY P)).ins (nat_lit 274) (FO P)).ins (nat_lit 275) (GZ P)).ins (nat_lit 276) (E2 P)).ins (nat_lit 277) (qA P)).ins (nat_lit 278) (HY P)).ins (nat_lit 279) (pV P)).ins (nat_lit 280) (pC P)).ins (nat_lit 281) (GF P)).ins (nat_lit 282) (rg P)).ins (nat_lit 283) (uc P)).ins (nat_lit 284) (rO P)).ins (nat_lit 285) (ox P)).ins (nat_lit 286) (rF P)).ins (nat_lit 287) (Ir P)).ins (nat_lit 288) (G4 P))
noncomputable def aa0:Life:=⟨[],[],[],0,[],[],false,#[],[],0,false,false,false,(.ofNat 0),[(.ofNat 2000),(.ofNat 10),(.ofNat 10)],false,0,true,[],[],0,false⟩
noncomputable abbrev V7(w:World)(os:OsState):SharedT:=⟨T14 w.params,nat_lit 289,aa0,Array.mk [],⟨0,0,0,0⟩,nat_lit 520,os⟩
noncomputable def q14(w:World):(OsState->Option (Flow×SharedT×Code×Pos))×(OsState->Option (Flow×SharedT×Code×Pos)):=(λos=>segRunT treeTable pw w (nat_lit 11) (some (.ref 6)) (nat_lit 1) (nat_lit 244) (VH w os) (piecesOf g14 hE hC ⟨53,0,56,17⟩ hB),λos=>some (Flow.next,V7 w os,hC,⟨57,0,60,17⟩))
theorem Ss:HD.seg pw (nat_lit 11) (some (.ref 6)) (nat_lit 244) VH V7 g14 hE hC ⟨53,0,56,17⟩ ⟨57,0,60,17⟩ hB=q14:=by kernel_rfl
name_quick LM for q14 by Ss
theorem i14(w:World):(Fast.LM w).1=(Fast.LM w).2:=by kernel_rfl
theorem h14:HD.Ok (HD.seg pw (nat_lit 11) (some (.ref 6)) (nat_lit 244) VH V7 g14 hE hC ⟨53,0,56,17⟩ ⟨57,0,60,17⟩ hB):=HD.gc Fast.LM_eq i14
noncomputable def Yt(P:Params):Obj:=⟨(.type "dict"),none,(.dict #[⟨(PyData.keyHash P x0),(.str x0 165),(.str zM 543)⟩,⟨(PyData.keyHash P x2),(.str x2 166), .none⟩,⟨(PyData.keyHash P x3),(.str x3 167), .none⟩,⟨(PyData.keyHash P x4),(.str x4 168),(.builtin "__main__.__loader__#opaque")⟩,⟨(PyData.keyHash P x5),(.str x5 169), .none⟩,⟨(PyData.keyHash P cC),(.str cC 170),(.ref 6)⟩,⟨(PyData.keyHash P cA),(.str cA 171),(.ref 4)⟩,⟨(PyData.keyHash P cB),(.str cB 173),(.str aw 172)⟩,⟨(PyData.keyHash P cD),(.str cD 174), .none⟩,⟨(PyData.keyHash P bY),(.str bY 193),(.ref 21)⟩,⟨(PyData.keyHash P aL),(.str aL 220),(.ref 38)⟩,⟨(PyData.keyHash P bZ),(.str bZ 243),(.ref 58)⟩,⟨(PyData.keyHash P ck),(.str ck 266),(.ref 77)⟩,⟨(PyData.keyHash P cy),(.str cy 289),(.ref 96)⟩,⟨(PyData.keyHash P cG),(.str cG 312),(.ref 115)⟩,⟨(PyData.keyHash P cK),(.str cK 335),(.ref 134)⟩,⟨(PyData.keyHash P cO),(.str cO 358),(.ref 153)⟩,⟨(PyData.keyHash P c9),(.str c9 381),(.ref 172)⟩,⟨(PyData.keyHash P dy),(.str dy 404),(.ref 191)⟩,⟨(PyData.keyHash P dQ),(.str dQ 427),(.ref 210)⟩,⟨(PyData.keyHash P en),(.str en 450),(.ref 229)⟩,⟨(PyData.keyHash P eL),(.str eL 473),(.ref 248)⟩,⟨(PyData.keyHash P fe),(.str fe 496),(.ref 267)⟩,⟨(PyData.keyHash P fP),(.str fP 519),(.ref 286)⟩,⟨(PyData.keyHash P gu),(.str gu 542),(.ref 305)⟩,⟨(PyData.keyHash P nJ),(.str nJ 546),(.int (.ofNat 600) 545)⟩,⟨(PyData.keyHash P nE),(.str nE 548),(.int (.ofNat 40) 547)⟩,⟨(PyData.keyHash P nD),(.str nD 550),(.int (.ofNat 99) 549)⟩] 28),#[]⟩
noncomputable def Sn(P:Params):Obj:=⟨.none,none,(.fields #[(HD.i 1),(HD.i 0),(.ref 20),(HD.i 5),(HD.i 0),(.ref 27),(HD.i 9),(HD.i 0),(.ref 47),(HD.i 13),(HD.i 0),(.ref 66),(HD.i 17),(HD.i 0),(.ref 85),(HD.i 21),(HD.i 0),(.ref 104),(HD.i 25),(HD.i 0),(.ref 123),(HD.i 29),(HD.i 0),(.ref 142),(HD.i 33),(HD.i 0),(.ref 161),(HD.i 37),(HD.i 0),(.ref 180),(HD.i 41),(HD.i 0),(.ref 199),(HD.i 45),(HD.i 0),(.ref 218),(HD.i 49),(HD.i 0),(.ref 237),(HD.i 53),(HD.i 0),(.ref 256),(HD.i 57),(HD.i 0),(.ref 275),(HD.i 61),(HD.i 0),(.ref 294)]),#[]⟩
noncomputable def yz(P:Params):Obj:=⟨(.type "type"),none,(.cls ⟨aL,[(.type "ValueError")],[(.ref 38),(.type "ValueError"),(.type "Exception"),(.type "BaseException"),(.type "object")],37,aL,true,[],[(.ref 58),(.ref 77),(.ref 96),(.ref 115),(.ref 134),(.ref 153),(.ref 172),(.ref 191),(.ref 210),(.ref 229),(.ref 248),(.ref 267),(.ref 286),(.ref 305)],false,none,false⟩),#[(some (.ref 22)),none,(some (.str aL 196)),(some (.str aL 204)),(some (.builtin "ValueError.__new__")),(some (.bool true))]⟩
noncomputable def q_(P:Params):Obj:=⟨(.type "tuple"),none,(.seq #[(.ref 38)] 0),#[]⟩
noncomputable def Gs(P:Params):Obj:=⟨(.type "builtin_function_or_method"),none,(.fields #[(.builtin "type.__prepare__"),(.type "type")]),#[]⟩
noncomputable def GX(P:Params):Obj:=⟨(.type "dict"),none,(.dict #[⟨(PyData.keyHash P bC),(.str bC 527),(.str bf 194)⟩,⟨(PyData.keyHash P dF),(.str dF 529),(.str gu 528)⟩,⟨(PyData.keyHash P bE),(.str bE 531),(.int (.ofNat 61) 530)⟩,⟨(PyData.keyHash P aJ),(.str aJ 538),(.ref 302)⟩,⟨(PyData.keyHash P bD),(.str bD 539),(.ref 303)⟩] 5),#[]⟩
noncomputable def Fs(P:Params):Obj:=⟨(.type "tuple"),none,(.seq #[] 0),#[]⟩
noncomputable def GH(P:Params):Obj:=⟨.none,none,(.fields #[(HD.i 63),(HD.i 4),(.ref 301)]),#[]⟩
noncomputable def Eu(P:Params):Obj:=⟨(.type "code"),none,(.fields #[(.str gu 522),(.str gu 523),(.str aw 524),(HD.i 61),(HD.i 0),(HD.i 0),(HD.i 0),(HD.i 0),(.ref 292),(.bool false),(HD.i 181),(.ref 293), .none, .none, .none, .none,(HD.i 525),(HD.i 61),(.str aw 526)]),#[]⟩
noncomputable def Fc(P:Params):Obj:=⟨(.type "frame"),none, .plain,#[(some (.ref 294)),(some (.ref 3)),(some (.ref 291)),none,(some (.str bf 194)),none,(some (.ref 0))]⟩
noncomputable def oq(P:Params):Obj:=⟨(.type "tuple"),none,(.seq #[] 0),#[]⟩
noncomputable def Hl(P:Params):Obj:=⟨.none,none,(.fields #[]),#[]⟩
noncomputable def tF(P:Params):Obj:=⟨(.type "tuple"),none,(.seq #[(.str js 535)] 0),#[]⟩
noncomputable def oy(P:Params):Obj:=⟨(.type "tuple"),none,(.seq #[] 0),#[]⟩
noncomputable def Eg(P:Params):Obj:=⟨.none,none,(.func ⟨aJ,Ve,L2.ak (L2.inClass (ht 16) 0), .stmts (L2.ai (L2.inClass (ht 16) 0)),L2.ae (L2.inClass (ht 16) 0),0,[], .none, .none, .none, .none,none, .none, .none,0⟩),#[]⟩
noncomputable def uL(P:Params):Obj:=⟨(.type "code"),none,(.fields #[(.str aJ 532),(.str Ve 533),(.str aw 534),(HD.i 63),(HD.i 1),(HD.i 0),(HD.i 0),(HD.i 3),(.ref 296),(.bool true),(HD.i 181),(.ref 297), .none,(.ref 298),(.ref 299),(.ref 300),(HD.i 536),(HD.i 63),(.str aw 537)]),#[]⟩
noncomputable def uN(P:Params):Obj:=⟨(.type "function"),none,(.func ⟨aJ,Ve,L2.ak (L2.inClass (ht 16) 0), .stmts (L2.ai (L2.inClass (ht 16) 0)),L2.ae (L2.inClass (ht 16) 0),3,[], .none, .none, .none,(.str bf 194),none,(.ref 301), .none,0⟩),#[]⟩
noncomputable def uw(P:Params):Obj:=⟨(.type "tuple"),none,(.seq #[] 0),#[]⟩
noncomputable def sG(P:Params):Obj:=⟨(.type "dict"),none,(.dict #[⟨(PyData.keyHash P bC),(.str bC 527),(.str bf 194)⟩,⟨(PyData.keyHash P bE),(.str bE 531),(.int (.ofNat 61) 530)⟩,⟨(PyData.keyHash P aJ),(.str aJ 538),(.ref 302)⟩,⟨(PyData.keyHash P bD),(.str bD 539),(.ref 303)⟩,⟨(PyData.keyHash P x2),(.str x2 540), .none⟩] 2),#[]⟩
noncomputable def oh(P:Params):Obj:=⟨(.type "type"),none,(.cls ⟨gu,[(.ref 38)],[(.ref 305),(.ref 38),(.type "ValueError"),(.type "Exception"),(.type "BaseException"),(.type "object")],304,gu,true,[],[],false,none,false⟩),#[(some (.ref 289)),none,(some (.str gu 520)),(some (.str gu 528)),(some (.builtin "ValueError.__new__")),(some (.bool true))]⟩
noncomputable def Hh(P:Params):Obj:=⟨(.type "super"),none,(.fields #[(.ref 305),(.ref 305),(.ref 305)]),#[]⟩
noncomputable def D_(P:Params):Obj:=⟨(.type "builtin_function_or_method"),none,(.fields #[(.builtin "object.__init_subclass__"),(.ref 305)]),#[]⟩
noncomputable def g15:List Stmt:=[ht 16,ht 17,ht 18,ht 19,ht 20]
noncomputable def T15(P:Params):BT:=(((((((((((((((((((((((T14 P).ins (nat_lit 3) (Yt P)).ins (nat_lit 12) (Sn P)).ins (nat_lit 38) (yz P)).ins (nat_lit 289) (q_ P)).ins (nat_lit 290) (Gs P)).ins (nat_lit 291) (GX P)).ins (nat_lit 292) (Fs P)).ins (nat_lit 293) (GH P)).ins (nat_lit 294) (Eu P)).ins (nat_lit 295) (Fc P)).ins (nat_lit 296) (oq P)).ins (nat_lit 297) (Hl P)).ins (nat_lit 298) (tF P)).ins (nat_lit 299) (oy P)).ins (nat_lit 300) (Eg P)).ins (nat_lit 301) (uL P)).ins (nat_lit 302) (uN P)).ins (nat_lit 303) (uw P)).ins (nat_lit 304) (sG P)).ins (nat_lit 305) (oh P)).ins (nat_lit 306) (Hh P)).ins (nat_lit 307) (D_ P))
noncomputable def abl:Life:=⟨[],[],[],0,[],[],false,#[],[],0,false,false,false,(.ofNat 0),[(.ofNat 2000),(.ofNat 10),(.ofNat 10)],false,0,true,[],[],0,false⟩
noncomputable abbrev RM(w:World)(os:OsState):SharedT:=⟨T15 w.params,nat_lit 308,abl,Array.mk [],⟨0,0,0,0⟩,nat_lit 551,os⟩
noncomputable def q15(w:World):(OsState->Option (Flow×SharedT×Code×Pos))×(OsState->Option (Flow×SharedT×Code×Pos)):=(λos=>segRunT treeTable pw w (nat_lit 11) (some (.ref 6)) (nat_lit 1) (nat_lit 280) (V7 w os) (piecesOf g15 hE hC ⟨57,0,60,17⟩ hB),λos=>some (Flow.next,RM w os,hC,⟨68,0,68,13⟩))
theorem SH:HD.seg pw (nat_lit 11) (some (.ref 6)) (nat_lit 280) V7 RM g15 hE hC ⟨57,0,60,17⟩ ⟨68,0,68,13⟩ hB=q15:=by kernel_rfl
name_quick LO for q15 by SH
theorem i15(w:World):(Fast.LO w).1=(Fast.LO w).2:=by kernel_rfl
theorem h15:HD.Ok (HD.seg pw (nat_lit 11) (some (.ref 6)) (nat_lit 280) V7 RM g15 hE hC ⟨57,0,60,17⟩ ⟨68,0,68,13⟩ hB):=HD.gc Fast.LO_eq i15
noncomputable def Yj(P:Params):Obj:=⟨(.type "dict"),none,(.dict #[⟨(PyData.keyHash P x0),(.str x0 165),(.str zM 543)⟩,⟨(PyData.keyHash P x2),(.str x2 166), .none⟩,⟨(PyData.keyHash P x3),(.str x3 167), .none⟩,⟨(PyData.keyHash P x4),(.str x4 168),(.builtin "__main__.__loader__#opaque")⟩,⟨(PyData.keyHash P x5),(.str x5 169), .none⟩,⟨(PyData.keyHash P cC),(.str cC 170),(.ref 6)⟩,⟨(PyData.keyHash P cA),(.str cA 171),(.ref 4)⟩,⟨(PyData.keyHash P cB),(.str cB 173),(.str aw 172)⟩,⟨(PyData.keyHash P cD),(.str cD 174), .none⟩,⟨(PyData.keyHash P bY),(.str bY 193),(.ref 21)⟩,⟨(PyData.keyHash P aL),(.str aL 220),(.ref 38)⟩,⟨(PyData.keyHash P bZ),(.str bZ 243),(.ref 58)⟩,⟨(PyData.keyHash P ck),(.str ck 266),(.ref 77)⟩,⟨(PyData.keyHash P cy),(.str cy 289),(.ref 96)⟩,⟨(PyData.keyHash P cG),(.str cG 312),(.ref 115)⟩,⟨(PyData.keyHash P cK),(.str cK 335),(.ref 134)⟩,⟨(PyData.keyHash P cO),(.str cO 358),(.ref 153)⟩,⟨(PyData.keyHash P c9),(.str c9 381),(.ref 172)⟩,⟨(PyData.keyHash P dy),(.str dy 404),(.ref 191)⟩,⟨(PyData.keyHash P dQ),(.str dQ 427),(.ref 210)⟩,⟨(PyData.keyHash P en),(.str en 450),(.ref 229)⟩,⟨(PyData.keyHash P eL),(.str eL 473),(.ref 248)⟩,⟨(PyData.keyHash P fe),(.str fe 496),(.ref 267)⟩,⟨(PyData.keyHash P fP),(.str fP 519),(.ref 286)⟩,⟨(PyData.keyHash P gu),(.str gu 542),(.ref 305)⟩,⟨(PyData.keyHash P nJ),(.str nJ 546),(.int (.ofNat 600) 545)⟩,⟨(PyData.keyHash P nE),(.str nE 548),(.int (.ofNat 40) 547)⟩,⟨(PyData.keyHash P nD),(.str nD 550),(.int (.ofNat 99) 549)⟩,⟨(PyData.keyHash P wz),(.str wz 615),(.ref 308)⟩] 29),#[]⟩
noncomputable def tR(P:Params):Obj:=⟨(.type "dict"),none,(.dict #[⟨(PyData.keyHash P XG),(.str XG 551),(.ref 309)⟩,⟨(PyData.keyHash P ZK),(.str ZK 553),(.ref 310)⟩,⟨(PyData.keyHash P x9),(.str x9 555),(.ref 311)⟩,⟨(PyData.keyHash P O9),(.str O9 559),(.ref 312)⟩,⟨(PyData.keyHash P YU),(.str YU 563),(.ref 313)⟩,⟨(PyData.keyHash P ZI),(.str ZI 568),(.ref 314)⟩,⟨(PyData.keyHash P IT),(.str IT 570),(.ref 315)⟩,⟨(PyData.keyHash P Ox),(.str Ox 574),(.ref 316)⟩,⟨(PyData.keyHash P OL),(.str OL 578),(.ref 317)⟩,⟨(PyData.keyHash P x38),(.str x38 580),(.ref 318)⟩,⟨(PyData.keyHash P IL),(.str IL 583),(.ref 319)⟩,⟨(PyData.keyHash P PD),(.str PD 589),(.ref 320)⟩,⟨(PyData.keyHash P IB),(.str IB 593),(.ref 321)⟩,⟨(PyData.keyHash P Z7),(.str Z7 598),(.ref 322)⟩,⟨(PyData.keyHash P OW),(.str OW 602),(.ref 323)⟩,⟨(PyData.keyHash P Mv),(.str Mv 607),(.ref 324)⟩,⟨(PyData.keyHash P Nn),(.str Nn 610),(.ref 325)⟩,⟨(PyData.keyHash P OX),(.str OX 613),(.ref 327)⟩] 18),#[]⟩
noncomputable def p_(P:Params):Obj:=⟨(.type "tuple"),none,(.seq #[] 0),#[]⟩
noncomputable def qS(P:Params):Obj:=⟨(.type "tuple"),none,(.seq #[] 0),#[]⟩
noncomputable def tW(P:Params):Obj:=⟨(.type "tuple"),none,(.seq #[(.str u4 556),(.str u4 557)] 0),#[]⟩
noncomputable def tj(P:Params):Obj:=⟨(.type "tuple"),none,(.seq #[(.str u4 560),(.str u4 561)] 0),#[]⟩
noncomputable def qF(P:Params):Obj:=⟨(.type "tuple"),none,(.seq #[(.str u4 564),(.str iN 565),(.str iN 566)] 0),#[]⟩
noncomputable def pA(P:Params):Obj:=⟨(.type "tuple"),none,(.seq #[] 0),#[]⟩
noncomputable def uh(P:Params):Obj:=⟨(.type "tuple"),none,(.seq #[(.str u4 571),(.str iN 572)] 0),#[]⟩
noncomputable def sN(P:Params):Obj:=⟨(.type "tuple"),none,(.seq #[(.str iN 575),(.str iN 576)] 0),#[]⟩
noncomputable def qk(P:Params):Obj:=⟨(.type "tuple"),none,(.seq #[] 0),#[]⟩
noncomputable def n8(P:Params):Obj:=⟨(.type "tuple"),none,(.seq #[(.str iN 581)] 0),#[]⟩
noncomputable def rV(P:Params):Obj:=⟨(.type "tuple"),none,(.seq #[(.str u4 584),(.str iN 585),(.str iN 586),(.str iN 587)] 0),#[]⟩
noncomputable def rQ(P:Params):Obj:=⟨(.type "tuple"),none,(.seq #[(.str u4 590),(.str iN 591)] 0),#[]⟩
noncomputable def ub(P:Params):Obj:=⟨(.type "tuple"),none,(.seq #[(.str u4 594),(.str iN 595),(.str iN 596)] 0),#[]⟩
noncomputable def pb(P:Params):Obj:=⟨(.type "tuple"),none,(.seq #[(.str u4 599),(.str iN 600)] 0),#[]⟩
noncomputable def tS(P:Params):Obj:=⟨(.type "tuple"),none,(.seq #[(.str u4 603),(.str iN 604),(.str iN 605)] 0),#[]⟩
noncomputable def pk(P:Params):Obj:=⟨(.type "tuple"),none,(.seq #[(.str iN 608)] 0),#[]⟩
noncomputable def oN(P:Params):Obj:=⟨(.type "tuple"),none,(.seq #[(.str iN 611)] 0),#[]⟩
noncomputable def EO(P:Params):Obj:=⟨(.type "dict"),none,(.dict #[⟨(PyData.keyHash P OX),(.str OX 613),(.ref 327)⟩] 1),#[]⟩
noncomputable def ql(P:Params):Obj:=⟨(.type "tuple"),none,(.seq #[] 0),#[]⟩
noncomputable def VY:List Stmt:=[ht 21]
noncomputable def T16(P:Params):BT:=((((((((((((((((((((((T15 P).ins (nat_lit 3) (Yj P)).ins (nat_lit 308) (tR P)).ins (nat_lit 309) (p_ P)).ins (nat_lit 310) (qS P)).ins (nat_lit 311) (tW P)).ins (nat_lit 312) (tj P)).ins (nat_lit 313) (qF P)).ins (nat_lit 314) (pA P)).ins (nat_lit 315) (uh P)).ins (nat_lit 316) (sN P)).ins (nat_lit 317) (qk P)).ins (nat_lit 318) (n8 P)).ins (nat_lit 319) (rV P)).ins (nat_lit 320) (rQ P)).ins (nat_lit 321) (ub P)).ins (nat_lit 322) (pb P)).ins (nat_lit 323) (tS P)).ins (nat_lit 324) (pk P)).ins (nat_lit 325) (oN P)).ins (nat_lit 326) (EO P)).ins (nat_lit 327) (ql P))
noncomputable def acE:Life:=⟨[],[],[],0,[],[],false,#[],[],0,false,false,false,(.ofNat 0),[(.ofNat 2000),(.ofNat 10),(.ofNat 10)],false,0,true,[],[],0,false⟩
noncomputable abbrev Od(w:World)(os:OsState):SharedT:=⟨T16 w.params,nat_lit 328,acE,Array.mk [],⟨0,0,0,0⟩,nat_lit 616,os⟩
noncomputable def Zh(w:World):(OsState->Option (Flow×SharedT×Code×Pos))×(OsState->Option (Flow×SharedT×Code×Pos)):=(λos=>segRunT treeTable pw (w.withFollow "special-get-raises" false) (nat_lit 11) (some (.ref 6)) (nat_lit 1) (nat_lit 340) (RM (w.withFollow "special-get-raises" false) os) (piecesOf VY hE hC ⟨68,0,68,13⟩ hB),λos=>some (Flow.next,Od (w.withFollow "special-get-raises" false) os,hC,⟨69,0,69,8⟩))
theorem Ow:(λw:World=>HD.seg pw (nat_lit 11) (some (.ref 6)) (nat_lit 340) RM Od VY hE hC ⟨68,0,68,13⟩ ⟨69,0,69,8⟩ hB (w.withFollow "special-get-raises" false))=Zh:=by kernel_rfl
name_quick Eo for Zh by Ow
theorem aao(w:World):(Fast.Eo w).1=(Fast.Eo w).2:=by kernel_rfl
noncomputable def X9(w:World):(OsState->Option (Flow×SharedT×Code×Pos))×(OsState->Option (Flow×SharedT×Code×Pos)):=(λos=>segRunT treeTable pw (w.withFollow "special-get-raises" true) (nat_lit 11) (some (.ref 6)) (nat_lit 1) (nat_lit 340) (RM (w.withFollow "special-get-raises" true) os) (piecesOf VY hE hC ⟨68,0,68,13⟩ hB),λos=>some (Flow.next,Od (w.withFollow "special-get-raises" true) os,hC,⟨69,0,69,8⟩))
theorem OD:(λw:World=>HD.seg pw (nat_lit 11) (some (.ref 6)) (nat_lit 340) RM Od VY hE hC ⟨68,0,68,13⟩ ⟨69,0,69,8⟩ hB (w.withFollow "special-get-raises" true))=X9:=by kernel_rfl
name_quick Ic for X9 by OD
theorem abG(w:World):(Fast.Ic w).1=(Fast.Ic w).2:=by kernel_rfl
theorem h16:HD.Ok (HD.seg pw (nat_lit 11) (some (.ref 6)) (nat_lit 340) RM Od VY hE hC ⟨68,0,68,13⟩ ⟨69,0,69,8⟩ hB):=HD.NY "special-get-raises" Fast.Eo_eq Fast.Ic_eq aao abG
noncomputable def Wm(P:Params):Obj:=⟨(.type "dict"),none,(.dict #[⟨(PyData.keyHash P x0),(.str x0 165),(.str MY 679)⟩,⟨(PyData.keyHash P x2),(.str x2 166), .none⟩,⟨(PyData.keyHash P x3),(.str x3 167), .none⟩,⟨(PyData.keyHash P x4),(.str x4 168),(.builtin "__main__.__loader__#opaque")⟩,⟨(PyData.keyHash P x5),(.str x5 169), .none⟩,⟨(PyData.keyHash P cC),(.str cC 170),(.ref 6)⟩,⟨(PyData.keyHash P cA),(.str cA 171),(.ref 4)⟩,⟨(PyData.keyHash P cB),(.str cB 173),(.str aw 172)⟩,⟨(PyData.keyHash P cD),(.str cD 174), .none⟩,⟨(PyData.keyHash P bY),(.str bY 193),(.ref 21)⟩,⟨(PyData.keyHash P aL),(.str aL 220),(.ref 38)⟩,⟨(PyData.keyHash P bZ),(.str bZ 243),(.ref 58)⟩,⟨(PyData.keyHash P ck),(.str ck 266),(.ref 77)⟩,⟨(PyData.keyHash P cy),(.str cy 289),(.ref 96)⟩,⟨(PyData.keyHash P cG),(.str cG 312),(.ref 115)⟩,⟨(PyData.keyHash P cK),(.str cK 335),(.ref 134)⟩,⟨(PyData.keyHash P cO),(.str cO 358),(.ref 153)⟩,⟨(PyData.keyHash P c9),(.str c9 381),(.ref 172)⟩,⟨(PyData.keyHash P dy),(.str dy 404),(.ref 191)⟩,⟨(PyData.keyHash P dQ),(.str dQ 427),(.ref 210)⟩,⟨(PyData.keyHash P en),(.str en 450),(.ref 229)⟩,⟨(PyData.keyHash P eL),(.str eL 473),(.ref 248)⟩,⟨(PyData.keyHash P fe),(.str fe 496),(.ref 267)⟩,⟨(PyData.keyHash P fP),(.str fP 519),(.ref 286)⟩,⟨(PyData.keyHash P gu),(.str gu 542),(.ref 305)⟩,⟨(PyData.keyHash P nJ),(.str nJ 546),(.int (.ofNat 600) 545)⟩,⟨(PyData.keyHash P nE),(.str nE 548),(.int (.ofNat 40) 547)⟩,⟨(PyData.keyHash P nD),(.str nD 550),(.int (.ofNat 99) 549)⟩,⟨(PyData.keyHash P wz),(.str wz 615),(.ref 308)⟩,⟨(PyData.keyHash P Cr),(.str Cr 631),(.ref 328)⟩,⟨(PyData.keyHash P lx),(.str lx 638),(.ref 335)⟩,⟨(PyData.keyHash P kY),(.str kY 644),(.ref 340)⟩,⟨(PyData.keyHash P kh),(.str kh 651),(.ref 347)⟩,⟨(PyData.keyHash P lj),(.str lj 657),(.ref 352)⟩,⟨(PyData.keyHash P jN),(.str jN 663),(.ref 357)⟩,⟨(PyData.keyHash P kL),(.str kL 670),(.ref 364)⟩,⟨(PyData.keyHash P ly),(.str ly 678),(.ref 371)⟩,⟨(PyData.keyHash P jO),(.str jO 689),(.ref 378)⟩,⟨(PyData.keyHash P kB),(.str kB 699),(.ref 385)⟩,⟨(PyData.keyHash P km),(.str km 710),(.ref 392)⟩] 40),#[]⟩
noncomputable def Vs(P:Params):Obj:=⟨.none,none,(.fields #[(HD.i 1),(HD.i 0),(.ref 20),(HD.i 5),(HD.i 0),(.ref 27),(HD.i 9),(HD.i 0),(.ref 47),(HD.i 13),(HD.i 0),(.ref 66),(HD.i 17),(HD.i 0),(.ref 85),(HD.i 21),(HD.i 0),(.ref 104),(HD.i 25),(HD.i 0),(.ref 123),(HD.i 29),(HD.i 0),(.ref 142),(HD.i 33),(HD.i 0),(.ref 161),(HD.i 37),(HD.i 0),(.ref 180),(HD.i 41),(HD.i 0),(.ref 199),(HD.i 45),(HD.i 0),(.ref 218),(HD.i 49),(HD.i 0),(.ref 237),(HD.i 53),(HD.i 0),(.ref 256),(HD.i 57),(HD.i 0),(.ref 275),(HD.i 61),(HD.i 0),(.ref 294),(HD.i 71),(HD.i 0),(.ref 334),(HD.i 73),(HD.i 0),(.ref 339),(HD.i 85),(HD.i 0),(.ref 346),(HD.i 89),(HD.i 0),(.ref 351),(HD.i 92),(HD.i 0),(.ref 356),(HD.i 96),(HD.i 0),(.ref 363),(HD.i 100),(HD.i 0),(.ref 370),(HD.i 105),(HD.i 0),(.ref 377),(HD.i 110),(HD.i 0),(.ref 384),(HD.i 115),(HD.i 0),(.ref 391)]),#[]⟩
noncomputable def qI(P:Params):Obj:=⟨(.type "dict"),none,(.dict #[⟨(PyData.keyHash P x9),(.str x9 616),(.int (.ofNat 1) 617)⟩,⟨(PyData.keyHash P O9),(.str O9 618),(.int (.ofNat 1) 619)⟩,⟨(PyData.keyHash P IT),(.str IT 620),(.int (.ofNat 1) 621)⟩,⟨(PyData.keyHash P IL),(.str IL 622),(.int (.ofNat 0) 623)⟩,⟨(PyData.keyHash P IB),(.str IB 624),(.int (.ofNat 0) 625)⟩] 5),#[]⟩
noncomputable def sd(P:Params):Obj:=⟨(.type "tuple"),none,(.seq #[] 0),#[]⟩
noncomputable def GI(P:Params):Obj:=⟨.none,none,(.fields #[]),#[]⟩
noncomputable def rT(P:Params):Obj:=⟨(.type "tuple"),none,(.seq #[(.str aaz 635)] 0),#[]⟩
noncomputable def qc(P:Params):Obj:=⟨(.type "tuple"),none,(.seq #[] 0),#[]⟩
noncomputable def FD(P:Params):Obj:=⟨.none,none,(.func ⟨lx,lx,L2.ak (ht 23), .stmts (L2.ai (ht 23)),L2.ae (ht 23),0,[], .none, .none, .none, .none,none, .none, .none,0⟩),#[]⟩
noncomputable def oG(P:Params):Obj:=⟨(.type "code"),none,(.fields #[(.str lx 632),(.str lx 633),(.str aw 634),(HD.i 71),(HD.i 1),(HD.i 0),(HD.i 0),(HD.i 3),(.ref 329),(.bool true),(HD.i 181),(.ref 330), .none,(.ref 331),(.ref 332),(.ref 333),(HD.i 636),(HD.i 71),(.str aw 637)]),#[]⟩
noncomputable def oP(P:Params):Obj:=⟨(.type "function"),none,(.func ⟨lx,lx,L2.ak (ht 23), .stmts (L2.ai (ht 23)),L2.ae (ht 23),3,[], .none, .none, .none,(.str zM 543),none,(.ref 334), .none,0⟩),#[]⟩
noncomputable def uP(P:Params):Obj:=⟨(.type "tuple"),none,(.seq #[] 0),#[]⟩
noncomputable def F6(P:Params):Obj:=⟨.none,none,(.fields #[]),#[]⟩
noncomputable def Gz(P:Params):Obj:=⟨.none,none,(.func ⟨kY,kY,L2.ak (ht 24), .stmts (L2.ai (ht 24)),L2.ae (ht 24),0,[], .none, .none, .none, .none,none, .none, .none,0⟩),#[]⟩
noncomputable def se(P:Params):Obj:=⟨(.type "code"),none,(.fields #[(.str kY 639),(.str kY 640),(.str aw 641),(HD.i 73),(HD.i 1),(HD.i 0),(HD.i 0),(HD.i 3),(.ref 336),(.bool true),(HD.i 181),(.ref 337), .none, .none, .none,(.ref 338),(HD.i 642),(HD.i 73),(.str aw 643)]),#[]⟩
noncomputable def si(P:Params):Obj:=⟨(.type "function"),none,(.func ⟨kY,kY,L2.ak (ht 24), .stmts (L2.ai (ht 24)),L2.ae (ht 24),3,[], .none, .none, .none,(.str zM 543),none,(.ref 339), .none,0⟩),#[]⟩
noncomputable def sU(P:Params):Obj:=⟨(.type "tuple"),none,(.seq #[] 0),#[]⟩
noncomputable def Eh(P:Params):Obj:=⟨.none,none,(.fields #[]),#[]⟩
noncomputable def uo(P:Params):Obj:=⟨(.type "tuple"),none,(.seq #[(.str jf 648)] 0),#[]⟩
noncomputable def qY(P:Params):Obj:=⟨(.type "tuple"),none,(.seq #[] 0),#[]⟩
noncomputable def Fe(P:Params):Obj:=⟨.none,none,(.func ⟨kh,kh,L2.ak (ht 25), .stmts (L2.ai (ht 25)),L2.ae (ht 25),0,[], .none, .none, .none, .none,none, .none, .none,0⟩),#[]⟩
noncomputable def sC(P:Params):Obj:=⟨(.type "code"),none,(.fields #[(.str kh 645),(.str kh 646),(.str aw 647),(HD.i 85),(HD.i 1),(HD.i 0),(HD.i 0),(HD.i 3),(.ref 341),(.bool true),(HD.i 181),(.ref 342), .none,(.ref 343),(.ref 344),(.ref 345),(HD.i 649),(HD.i 85),(.str aw 650)]),#[]⟩
noncomputable def pL(P:Params):Obj:=⟨(.type "function"),none,(.func ⟨kh,kh,L2.ak (ht 25), .stmts (L2.ai (ht 25)),L2.ae (ht 25),3,[], .none, .none, .none,(.str zM 543),none,(.ref 346), .none,0⟩),#[]⟩
noncomputable def og(P:Params):Obj:=⟨(.type "tuple"),none,(.seq #[] 0),#[]⟩
noncomputable def ES(P:Params):Obj:=⟨.none,none,(.fields #[]),#[]⟩
noncomputable def Hr(P:Params):Obj:=⟨.none,none,(.func ⟨lj,lj,L2.ak (ht 26), .stmts (L2.ai (ht 26)),L2.ae (ht 26),0,[], .none, .none, .none, .none,none, .none, .none,0⟩),#[]⟩
noncomputable def nZ(P:Params):Obj:=⟨(.type "code"),none,(.fields #[(.str lj 652),(.str lj 653),(.str aw 654),(HD.i 89),(HD.i 1),(HD.i 0),(HD.i 0),(HD.i 3),(.ref 348),(.bool true),(HD.i 181),(.ref 349), .none, .none, .none,(.ref 350),(HD.i 655),(HD.i 89),(.str aw 656)]),#[]⟩
noncomputable def qV(P:Params):Obj:=⟨(.type "function"),none,(.func ⟨lj,lj,L2.ak (ht 26), .stmts (L2.ai (ht 26)),L2.ae (ht 26),3,[], .none, .none, .none,(.str zM 543),none,(.ref 351), .none,0⟩),#[]⟩
noncomputable def oM(P:Params):Obj:=⟨(.type "tuple"),none,(.seq #[] 0),#[]⟩
noncomputable def FH(P:Params):Obj:=⟨.none,none,(.fields #[]),#[]⟩
noncomputable def Fn(P:Params):Obj:=⟨.none,none,(.func ⟨jN,jN,L2.ak (ht 27), .stmts (L2.ai (ht 27)),L2.ae (ht 27),0,[], .none, .none, .none, .none,none, .none, .none,0⟩),#[]⟩
noncomputable def oz(P:Params):Obj:=⟨(.type "code"),none,(.fields #[(.str jN 658),(.str jN 659),(.str aw 660),(HD.i 92),(HD.i 1),(HD.i 0),(HD.i 0),(HD.i 3),(.ref 353),(.bool true),(HD.i 181),(.ref 354), .none, .none, .none,(.ref 355),(HD.i 661),(HD.i 92),(.str aw 662)]),#[]⟩
noncomputable def t_(P:Params):Obj:=⟨(.type "function"),none,(.func ⟨jN,jN,L2.ak (ht 27), .stmts (L2.ai (ht 27)),L2.ae (ht 27),3,[], .none, .none, .none,(.str zM 543),none,(.ref 356), .none,0⟩),#[]⟩
noncomputable def oR(P:Params):Obj:=⟨(.type "tuple"),none,(.seq #[] 0),#[]⟩
noncomputable def GN(P:Params):Obj:=⟨.none,none,(.fields #[]),#[]⟩
noncomputable def rY(P:Params):Obj:=⟨(.type "tuple"),none,(.seq #[(.str jf 667)] 0),#[]⟩
noncomputable def uy(P:Params):Obj:=⟨(.type "tuple"),none,(.seq #[] 0),#[]⟩
noncomputable def GR(P:Params):Obj:=⟨.none,none,(.func ⟨kL,kL,L2.ak (ht 28), .stmts (L2.ai (ht 28)),L2.ae (ht 28),0,[], .none, .none, .none, .none,none, .none, .none,0⟩),#[]⟩
noncomputable def ur(P:Params):Obj:=⟨(.type "code"),none,(.fields #[(.str kL 664),(.str kL 665),(.str aw 666),(HD.i 96),(HD.i 1),(HD.i 0),(HD.i 0),(HD.i 3),(.ref 358),(.bool true),(HD.i 181),(.ref 359), .none,(.ref 360),(.ref 361),(.ref 362),(HD.i 668),(HD.i 96),(.str aw 669)]),#[]⟩
noncomputable def r_(P:Params):Obj:=⟨(.type "function"),none,(.func ⟨kL,kL,L2.ak (ht 28), .stmts (L2.ai (ht 28)),L2.ae (ht 28),3,[], .none, .none, .none,(.str zM 543),none,(.ref 363), .none,0⟩),#[]⟩
noncomputable def uT(P:Params):Obj:=⟨(.type "tuple"),none,(.seq #[] 0),#[]⟩
noncomputable def GB(P:Params):Obj:=⟨.none,none,(.fields #[]),#[]⟩
noncomputable def n9(P:Params):Obj:=⟨(.type "tuple"),none,(.seq #[(.str jf 674),(.str SG 675)] 0),#[]⟩
noncomputable def tK(P:Params):Obj:=⟨(.type "tuple"),none,(.seq #[] 0),#[]⟩
noncomputable def Fd(P:Params):Obj:=⟨.none,none,(.func ⟨ly,ly,L2.ak (ht 29), .stmts (L2.ai (ht 29)),L2.ae (ht 29),0,[], .none, .none, .none, .none,none, .none, .none,0⟩),#[]⟩
noncomputable def oJ(P:Params):Obj:=⟨(.type "code"),none,(.fields #[(.str ly 671),(.str ly 672),(.str aw 673),(HD.i 100),(HD.i 2),(HD.i 0),(HD.i 0),(HD.i 3),(.ref 365),(.bool true),(HD.i 181),(.ref 366), .none,(.ref 367),(.ref 368),(.ref 369),(HD.i 676),(HD.i 100),(.str aw 677)]),#[]⟩
noncomputable def s_(P:Params):Obj:=⟨(.type "function"),none,(.func ⟨ly,ly,L2.ak (ht 29), .stmts (L2.ai (ht 29)),L2.ae (ht 29),3,[], .none, .none, .none,(.str zM 543),none,(.ref 370), .none,0⟩),#[]⟩
noncomputable def sV(P:Params):Obj:=⟨(.type "tuple"),none,(.seq #[] 0),#[]⟩
noncomputable def GQ(P:Params):Obj:=⟨.none,none,(.fields #[]),#[]⟩
noncomputable def sg(P:Params):Obj:=⟨(.type "tuple"),none,(.seq #[(.str jf 684),(.str OF 685),(.str SG 686)] 0),#[]⟩
noncomputable def ou(P:Params):Obj:=⟨(.type "tuple"),none,(.seq #[] 0),#[]⟩
noncomputable def FA(P:Params):Obj:=⟨.none,none,(.func ⟨jO,jO,L2.ak (ht 31), .stmts (L2.ai (ht 31)),L2.ae (ht 31),0,[], .none, .none, .none, .none,none, .none, .none,0⟩),#[]⟩
noncomputable def uk(P:Params):Obj:=⟨(.type "code"),none,(.fields #[(.str jO 681),(.str jO 682),(.str aw 683),(HD.i 105),(HD.i 2),(HD.i 0),(HD.i 0),(HD.i 3),(.ref 372),(.bool true),(HD.i 181),(.ref 373), .none,(.ref 374),(.ref 375),(.ref 376),(HD.i 687),(HD.i 105),(.str aw 688)]),#[]⟩
noncomputable def oY(P:Params):Obj:=⟨(.type "function"),none,(.func ⟨jO,jO,L2.ak (ht 31), .stmts (L2.ai (ht 31)),L2.ae (ht 31),3,[], .none, .none, .none,(.str MY 679),none,(.ref 377), .none,0⟩),#[]⟩
noncomputable def pd(P:Params):Obj:=⟨(.type "tuple"),none,(.seq #[] 0),#[]⟩
noncomputable def Im(P:Params):Obj:=⟨.none,none,(.fields #[]),#[]⟩
noncomputable def tP(P:Params):Obj:=⟨(.type "tuple"),none,(.seq #[(.str jf 693),(.str L9 694),(.str Pr 695),(.str OF 696)] 0),#[]⟩
noncomputable def tY(P:Params):Obj:=⟨(.type "tuple"),none,(.seq #[] 0),#[]⟩
noncomputable def FY(P:Params):Obj:=⟨.none,none,(.func ⟨kB,kB,L2.ak (ht 32), .stmts (L2.ai (ht 32)),L2.ae (ht 32),0,[], .none, .none, .none, .none,none, .none, .none,0⟩),#[]⟩
noncomputable def qJ(P:Params):Obj:=⟨(.type "code"),none,(.fields #[(.str kB 690),(.str kB 691),(.str aw 692),(HD.i 110),(HD.i 2),(HD.i 0),(HD.i 0),(HD.i 3),(.ref 379),(.bool true),(HD.i 181),(.ref 380), .none,(.ref 381),(.ref 382),(.ref 383),(HD.i 697),(HD.i 110),(.str aw 698)]),#[]⟩
noncomputable def oZ(P:Params):Obj:=⟨(.type "function"),none,(.func ⟨kB,kB,L2.ak (ht 32), .stmts (L2.ai (ht 32)),L2.ae (ht 32),3,[], .none, .none, .none,(.str MY 679),none,(.ref 384), .none,0⟩),#[]⟩
noncomputable def pP(P:Params):Obj:=⟨(.type "tuple"),none,(.seq #[] 0),#[]⟩
noncomputable def Ia(P:Params):Obj:=⟨.none,none,(.fields #[]),#[]⟩
noncomputable def pf(P:Params):Obj:=⟨(.type "tuple"),none,(.seq #[(.str jf 703),(.str L9 704),(.str Yk 705),(.str Zn 706),(.str SG 707)] 0),#[]⟩
noncomputable def sQ(P:Params):Obj:=⟨(.type "tuple"),none,(.seq #[] 0),#[]⟩
noncomputable def Gq(P:Params):Obj:=⟨.none,none,(.func ⟨km,km,L2.ak (ht 33), .stmts (L2.ai (ht 33)),L2.ae (ht 33),0,[], .none, .none, .none, .none,none, .none, .none,0⟩),#[]⟩
noncomputable def sr(P:Params):Obj:=⟨(.type "code"),none,(.fields #[(.str km 700),(.str km 701),(.str aw 702),(HD.i 115),(HD.i 3),(HD.i 0),(HD.i 0),(HD.i 3),(.ref 386),(.bool true),(HD.i 181),(.ref 387), .none,(.ref 388),(.ref 389),(.ref 390),(HD.i 708),(HD.i 115),(.str aw 709)]),#[]⟩
noncomputable def tM(P:Params):Obj:=⟨(.type "function"),none,(.func ⟨km,km,L2.ak (ht 33), .stmts (L2.ai (ht 33)),L2.ae (ht 33),3,[], .none, .none, .none,(.str MY 679),none,(.ref 391), .none,0⟩),#[]⟩
noncomputable def V5:List Stmt:=[ht 22,ht 23,ht 24,ht 25,ht 26,ht 27,ht 28,ht 29,ht 30,ht 31,ht 32,ht 33]
noncomputable def T17(P:Params):BT:=((((((((((((((((((((((((((((((((((((((((((((((((((((((((((((((((((((T16 P).ins (nat_lit 3) (Wm P)).ins (nat_lit 12) (Vs P)).ins (nat_lit 328) (qI P)).ins (nat_lit 329) (sd P)).ins (nat_lit 330) (GI P)).ins (nat_lit 331) (rT P)).ins (nat_lit 332) (qc P)).ins (nat_lit 333) (FD P)).ins (nat_lit 334) (oG P)).ins (nat_lit 335) (oP P)).ins (nat_lit 336) (uP P)).ins (nat_lit 337) (F6 P)).ins (nat_lit 338) (Gz P)).ins (nat_lit 339) (se P)).ins (nat_lit 340) (si P)).ins (nat_lit 341) (sU P)).ins (nat_lit 342) (Eh P)).ins (nat_lit 343) (uo P)).ins (nat_lit 344) (qY P)).ins (nat_lit 345) (Fe P)).ins (nat_lit 346) (sC P)).ins (nat_lit 347) (pL P)).ins (nat_lit 348) (og P)).ins (nat_lit 349) (ES P)).ins (nat_lit 350) (Hr P)).ins (nat_lit 351) (nZ P)).ins (nat_lit 352) (qV P)).ins (nat_lit 353) (oM P)).ins (nat_lit 354) (FH P)).ins (nat_lit 355) (Fn P)).ins (nat_lit 356) (oz P)).ins (nat_lit 357) (t_ P)).ins (nat_lit 358) (oR P)).ins (nat_lit 359) (GN P)).ins (nat_lit 360) (rY P)).ins (nat_lit 361) (uy P)).ins (nat_lit 362) (GR P)).ins (nat_lit 363) (ur P)).ins (nat_lit 364) (r_ P)).ins (nat_lit 365) (uT P)).ins (nat_lit 366) (GB P)).ins (nat_lit 367) (n9 P)).ins (nat_lit 368) (tK P)).ins (nat_lit 369) (Fd P)).ins (nat_lit 370) (oJ P)).ins (nat_lit 371) (s_ P)).ins (nat_lit 372) (sV P)).ins (nat_lit 373) (GQ P)).ins (nat_lit 374) (sg P)).ins (nat_lit 375) (ou P)).ins (nat_lit 376) (FA P)).ins (nat_lit 377) (uk P)).ins (nat_lit 378) (oY P)).ins (nat_lit 379) (pd P)).ins (nat_lit 380) (Im P)).ins (nat_lit 381) (tP P)).ins (nat_lit 382) (tY P)).ins (nat_lit 383) (FY P)).ins (nat_lit 384) (qJ P)).ins (nat_lit 385) (oZ P)).ins (nat_lit 386) (pP P)).ins (nat_lit 387) (Ia P)).ins (nat_lit 388) (pf P)).ins (nat_lit 389) (sQ P)).ins (nat_lit 390) (Gq P)).ins (nat_lit 391) (sr P)).ins (nat_lit 392) (tM P))
noncomputable def aaE:Life:=⟨[],[],[],0,[],[],false,#[],[],0,false,false,false,(.ofNat 0),[(.ofNat 2000),(.ofNat 10),(.ofNat 10)],false,0,true,[],[],0,false⟩
noncomputable abbrev N9(w:World)(os:OsState):SharedT:=⟨T17 w.params,nat_lit 393,aaE,Array.mk [],⟨0,0,0,0⟩,nat_lit 711,os⟩
noncomputable def Xn(w:World):(OsState->Option (Flow×SharedT×Code×Pos))×(OsState->Option (Flow×SharedT×Code×Pos)):=(λos=>segRunT treeTable pw (w.withFollow "special-get-raises" false) (nat_lit 11) (some (.ref 6)) (nat_lit 1) (nat_lit 386) (Od (w.withFollow "special-get-raises" false) os) (piecesOf V5 hE hC ⟨69,0,69,8⟩ hB),λos=>some (Flow.next,N9 (w.withFollow "special-get-raises" false) os,hC,⟨115,0,121,31⟩))
theorem Px:(λw:World=>HD.seg pw (nat_lit 11) (some (.ref 6)) (nat_lit 386) Od N9 V5 hE hC ⟨69,0,69,8⟩ ⟨115,0,121,31⟩ hB (w.withFollow "special-get-raises" false))=Xn:=by kernel_rfl
name_quick E4 for Xn by Px
theorem acC(w:World):(Fast.E4 w).1=(Fast.E4 w).2:=by kernel_rfl
noncomputable def Xg(w:World):(OsState->Option (Flow×SharedT×Code×Pos))×(OsState->Option (Flow×SharedT×Code×Pos)):=(λos=>segRunT treeTable pw (w.withFollow "special-get-raises" true) (nat_lit 11) (some (.ref 6)) (nat_lit 1) (nat_lit 386) (Od (w.withFollow "special-get-raises" true) os) (piecesOf V5 hE hC ⟨69,0,69,8⟩ hB),λos=>some (Flow.next,N9 (w.withFollow "special-get-raises" true) os,hC,⟨115,0,121,31⟩))
theorem P5:(λw:World=>HD.seg pw (nat_lit 11) (some (.ref 6)) (nat_lit 386) Od N9 V5 hE hC ⟨69,0,69,8⟩ ⟨115,0,121,31⟩ hB (w.withFollow "special-get-raises" true))=Xg:=by kernel_rfl
name_quick GD for Xg by P5
theorem abU(w:World):(Fast.GD w).1=(Fast.GD w).2:=by kernel_rfl
theorem h17:HD.Ok (HD.seg pw (nat_lit 11) (some (.ref 6)) (nat_lit 386) Od N9 V5 hE hC ⟨69,0,69,8⟩ ⟨115,0,121,31⟩ hB):=HD.NY "special-get-raises" Fast.E4_eq Fast.GD_eq acC abU
noncomputable def ZW(P:Params):Obj:=⟨(.type "dict"),none,(.dict #[⟨(PyData.keyHash P x0),(.str x0 165),(.str Iz 752)⟩,⟨(PyData.keyHash P x2),(.str x2 166), .none⟩,⟨(PyData.keyHash P x3),(.str x3 167), .none⟩,⟨(PyData.keyHash P x4),(.str x4 168),(.builtin "__main__.__loader__#opaque")⟩,⟨(PyData.keyHash P x5),(.str x5 169), .none⟩,⟨(PyData.keyHash P cC),(.str cC 170),(.ref 6)⟩,⟨(PyData.keyHash P cA),(.str cA 171),(.ref 4)⟩,⟨(PyData.keyHash P cB),(.str cB 173),(.str aw 172)⟩,⟨(PyData.keyHash P cD),(.str cD 174), .none⟩,⟨(PyData.keyHash P bY),(.str bY 193),(.ref 21)⟩,⟨(PyData.keyHash P aL),(.str aL 220),(.ref 38)⟩,⟨(PyData.keyHash P bZ),(.str bZ 243),(.ref 58)⟩,⟨(PyData.keyHash P ck),(.str ck 266),(.ref 77)⟩,⟨(PyData.keyHash P cy),(.str cy 289),(.ref 96)⟩,⟨(PyData.keyHash P cG),(.str cG 312),(.ref 115)⟩,⟨(PyData.keyHash P cK),(.str cK 335),(.ref 134)⟩,⟨(PyData.keyHash P cO),(.str cO 358),(.ref 153)⟩,⟨(PyData.keyHash P c9),(.str c9 381),(.ref 172)⟩,⟨(PyData.keyHash P dy),(.str dy 404),(.ref 191)⟩,⟨(PyData.keyHash P dQ),(.str dQ 427),(.ref 210)⟩,⟨(PyData.keyHash P en),(.str en 450),(.ref 229)⟩,⟨(PyData.keyHash P eL),(.str eL 473),(.ref 248)⟩,⟨(PyData.keyHash P fe),(.str fe 496),(.ref 267)⟩,⟨(PyData.keyHash P fP),(.str fP 519),(.ref 286)⟩,⟨(PyData.keyHash P gu),(.str gu 542),(.ref 305)⟩,⟨(PyData.keyHash P nJ),(.str nJ 546),(.int (.ofNat 600) 545)⟩,⟨(PyData.keyHash P nE),(.str nE 548),(.int (.ofNat 40) 547)⟩,⟨(PyData.keyHash P nD),(.str nD 550),(.int (.ofNat 99) 549)⟩,⟨(PyData.keyHash P wz),(.str wz 615),(.ref 308)⟩,⟨(PyData.keyHash P Cr),(.str Cr 631),(.ref 328)⟩,⟨(PyData.keyHash P lx),(.str lx 638),(.ref 335)⟩,⟨(PyData.keyHash P kY),(.str kY 644),(.ref 340)⟩,⟨(PyData.keyHash P kh),(.str kh 651),(.ref 347)⟩,⟨(PyData.keyHash P lj),(.str lj 657),(.ref 352)⟩,⟨(PyData.keyHash P jN),(.str jN 663),(.ref 357)⟩,⟨(PyData.keyHash P kL),(.str kL 670),(.ref 364)⟩,⟨(PyData.keyHash P ly),(.str ly 678),(.ref 371)⟩,⟨(PyData.keyHash P jO),(.str jO 689),(.ref 378)⟩,⟨(PyData.keyHash P kB),(.str kB 699),(.ref 385)⟩,⟨(PyData.keyHash P km),(.str km 710),(.ref 392)⟩,⟨(PyData.keyHash P m7),(.str m7 719),(.ref 399)⟩,⟨(PyData.keyHash P nB),(.str nB 727),(.ref 404)⟩,⟨(PyData.keyHash P ni),(.str ni 739),(.ref 411)⟩,⟨(PyData.keyHash P nF),(.str nF 751),(.ref 418)⟩,⟨(PyData.keyHash P IS),(.str IS 782),(.ref 419)⟩,⟨(PyData.keyHash P mZ),(.str mZ 793),(.ref 437)⟩,⟨(PyData.keyHash P nC),(.str nC 801),(.ref 444)⟩,⟨(PyData.keyHash P m5),(.str m5 810),(.ref 451)⟩,⟨(PyData.keyHash P nK),(.str nK 821),(.ref 458)⟩] 49),#[]⟩
noncomputable def Tq(P:Params):Obj:=⟨.none,none,(.fields #[(HD.i 1),(HD.i 0),(.ref 20),(HD.i 5),(HD.i 0),(.ref 27),(HD.i 9),(HD.i 0),(.ref 47),(HD.i 13),(HD.i 0),(.ref 66),(HD.i 17),(HD.i 0),(.ref 85),(HD.i 21),(HD.i 0),(.ref 104),(HD.i 25),(HD.i 0),(.ref 123),(HD.i 29),(HD.i 0),(.ref 142),(HD.i 33),(HD.i 0),(.ref 161),(HD.i 37),(HD.i 0),(.ref 180),(HD.i 41),(HD.i 0),(.ref 199),(HD.i 45),(HD.i 0),(.ref 218),(HD.i 49),(HD.i 0),(.ref 237),(HD.i 53),(HD.i 0),(.ref 256),(HD.i 57),(HD.i 0),(.ref 275),(HD.i 61),(HD.i 0),(.ref 294),(HD.i 71),(HD.i 0),(.ref 334),(HD.i 73),(HD.i 0),(.ref 339),(HD.i 85),(HD.i 0),(.ref 346),(HD.i 89),(HD.i 0),(.ref 351),(HD.i 92),(HD.i 0),(.ref 356),(HD.i 96),(HD.i 0),(.ref 363),(HD.i 100),(HD.i 0),(.ref 370),(HD.i 105),(HD.i 0),(.ref 377),(HD.i 110),(HD.i 0),(.ref 384),(HD.i 115),(HD.i 0),(.ref 391),(HD.i 122),(HD.i 0),(.ref 398),(HD.i 125),(HD.i 0),(.ref 403),(HD.i 130),(HD.i 0),(.ref 410),(HD.i 135),(HD.i 0),(.ref 417),(HD.i 144),(HD.i 0),(.ref 436),(HD.i 151),(HD.i 0),(.ref 443),(HD.i 154),(HD.i 0),(.ref 450),(HD.i 166),(HD.i 0),(.ref 457)]),#[]⟩
noncomputable def o_(P:Params):Obj:=⟨(.type "tuple"),none,(.seq #[] 0),#[]⟩
noncomputable def Hz(P:Params):Obj:=⟨.none,none,(.fields #[]),#[]⟩
noncomputable def rX(P:Params):Obj:=⟨(.type "tuple"),none,(.seq #[(.str jf 714),(.str L9 715),(.str Yk 716)] 0),#[]⟩
noncomputable def uU(P:Params):Obj:=⟨(.type "tuple"),none,(.seq #[] 0),#[]⟩
noncomputable def Ey(P:Params):Obj:=⟨.none,none,(.func ⟨m7,m7,L2.ak (ht 34), .stmts (L2.ai (ht 34)),L2.ae (ht 34),0,[], .none, .none, .none, .none,none, .none, .none,0⟩),#[]⟩
noncomputable def uF(P:Params):Obj:=⟨(.type "code"),none,(.fields #[(.str m7 711),(.str m7 712),(.str aw 713),(HD.i 122),(HD.i 3),(HD.i 0),(HD.i 0),(HD.i 3),(.ref 393),(.bool true),(HD.i 181),(.ref 394), .none,(.ref 395),(.ref 396),(.ref 397),(HD.i 717),(HD.i 122),(.str aw 718)]),#[]⟩
noncomputable def pN(P:Params):Obj:=⟨(.type "function"),none,(.func ⟨m7,m7,L2.ak (ht 34), .stmts (L2.ai (ht 34)),L2.ae (ht 34),3,[], .none, .none, .none,(.str MY 679),none,(.ref 398), .none,0⟩),#[]⟩
noncomputable def n_(P:Params):Obj:=⟨(.type "tuple"),none,(.seq #[] 0),#[]⟩
noncomputable def Hd(P:Params):Obj:=⟨.none,none,(.fields #[]),#[]⟩
noncomputable def Ie(P:Params):Obj:=⟨.none,none,(.func ⟨nB,nB,L2.ak (ht 36), .stmts (L2.ai (ht 36)),L2.ae (ht 36),0,[], .none, .none, .none, .none,none, .none, .none,0⟩),#[]⟩
noncomputable def nX(P:Params):Obj:=⟨(.type "code"),none,(.fields #[(.str nB 722),(.str nB 723),(.str aw 724),(HD.i 125),(HD.i 3),(HD.i 0),(HD.i 0),(HD.i 3),(.ref 400),(.bool true),(HD.i 181),(.ref 401), .none, .none, .none,(.ref 402),(HD.i 725),(HD.i 125),(.str aw 726)]),#[]⟩
noncomputable def qW(P:Params):Obj:=⟨(.type "function"),none,(.func ⟨nB,nB,L2.ak (ht 36), .stmts (L2.ai (ht 36)),L2.ae (ht 36),3,[], .none, .none, .none,(.str Tj 720),none,(.ref 403), .none,0⟩),#[]⟩
noncomputable def uS(P:Params):Obj:=⟨(.type "tuple"),none,(.seq #[] 0),#[]⟩
noncomputable def Fo(P:Params):Obj:=⟨.none,none,(.fields #[]),#[]⟩
noncomputable def sO(P:Params):Obj:=⟨(.type "tuple"),none,(.seq #[(.str jf 731),(.str Xz 732),(.str ZL 733),(.str Wy 734)] 0),#[]⟩
noncomputable def pe(P:Params):Obj:=⟨(.type "tuple"),none,(.seq #[(.str Xz 735),(.str ZL 736)] 0),#[]⟩
noncomputable def Ih(P:Params):Obj:=⟨.none,none,(.func ⟨ni,ni,L2.ak (ht 37), .stmts (L2.ai (ht 37)),L2.ae (ht 37),0,[], .none, .none, .none, .none,none, .none, .none,0⟩),#[]⟩
noncomputable def sP(P:Params):Obj:=⟨(.type "code"),none,(.fields #[(.str ni 728),(.str ni 729),(.str aw 730),(HD.i 130),(HD.i 3),(HD.i 0),(HD.i 0),(HD.i 3),(.ref 405),(.bool true),(HD.i 181),(.ref 406), .none,(.ref 407),(.ref 408),(.ref 409),(HD.i 737),(HD.i 130),(.str aw 738)]),#[]⟩
noncomputable def oI(P:Params):Obj:=⟨(.type "function"),none,(.func ⟨ni,ni,L2.ak (ht 37), .stmts (L2.ai (ht 37)),L2.ae (ht 37),3,[], .none, .none, .none,(.str Tj 720),none,(.ref 410), .none,0⟩),#[]⟩
noncomputable def sE(P:Params):Obj:=⟨(.type "tuple"),none,(.seq #[] 0),#[]⟩
noncomputable def D4(P:Params):Obj:=⟨.none,none,(.fields #[]),#[]⟩
noncomputable def qD(P:Params):Obj:=⟨(.type "tuple"),none,(.seq #[(.str jf 743),(.str Xs 744),(.str Zy 745),(.str Wy 746)] 0),#[]⟩
noncomputable def rZ(P:Params):Obj:=⟨(.type "tuple"),none,(.seq #[(.str Xs 747),(.str Zy 748)] 0),#[]⟩
noncomputable def E9(P:Params):Obj:=⟨.none,none,(.func ⟨nF,nF,L2.ak (ht 38), .stmts (L2.ai (ht 38)),L2.ae (ht 38),0,[], .none, .none, .none, .none,none, .none, .none,0⟩),#[]⟩
noncomputable def sW(P:Params):Obj:=⟨(.type "code"),none,(.fields #[(.str nF 740),(.str nF 741),(.str aw 742),(HD.i 135),(HD.i 3),(HD.i 0),(HD.i 0),(HD.i 3),(.ref 412),(.bool true),(HD.i 181),(.ref 413), .none,(.ref 414),(.ref 415),(.ref 416),(HD.i 749),(HD.i 135),(.str aw 750)]),#[]⟩
noncomputable def nN(P:Params):Obj:=⟨(.type "function"),none,(.func ⟨nF,nF,L2.ak (ht 38), .stmts (L2.ai (ht 38)),L2.ae (ht 38),3,[], .none, .none, .none,(.str Tj 720),none,(.ref 417), .none,0⟩),#[]⟩
noncomputable def om(P:Params):Obj:=⟨(.type "dict"),none,(.dict #[⟨(PyData.keyHash P Ox),(.str Ox 754),(.ref 421)⟩,⟨(PyData.keyHash P IL),(.str IL 758),(.ref 424)⟩,⟨(PyData.keyHash P IB),(.str IB 765),(.ref 426)⟩,⟨(PyData.keyHash P Mv),(.str Mv 769),(.ref 428)⟩,⟨(PyData.keyHash P Nn),(.str Nn 773),(.ref 430)⟩] 5),#[]⟩
noncomputable def tD(P:Params):Obj:=⟨(.type "tuple"),none,(.seq #[(.int (.ofNat 1) 755),(.str IT 756),(.str IT 757)] 0),#[]⟩
noncomputable def n0(P:Params):Obj:=⟨(.type "tuple"),none,(.seq #[(.ref 420)] 0),#[]⟩
noncomputable def oX(P:Params):Obj:=⟨(.type "tuple"),none,(.seq #[(.int (.ofNat 4) 759),(.str OL 760),(.str OL 761)] 0),#[]⟩
noncomputable def oW(P:Params):Obj:=⟨(.type "tuple"),none,(.seq #[(.int (.ofNat 4) 762),(.str x38 763),(.str x38 764)] 0),#[]⟩
noncomputable def pQ(P:Params):Obj:=⟨(.type "tuple"),none,(.seq #[(.ref 422),(.ref 423)] 0),#[]⟩
noncomputable def pI(P:Params):Obj:=⟨(.type "tuple"),none,(.seq #[(.int (.ofNat 3) 766),(.str PD 767),(.str PD 768)] 0),#[]⟩
noncomputable def tV(P:Params):Obj:=⟨(.type "tuple"),none,(.seq #[(.ref 425)] 0),#[]⟩
noncomputable def oE(P:Params):Obj:=⟨(.type "tuple"),none,(.seq #[(.int (.ofNat 1) 770),(.str OW 771),(.str Mv 772)] 0),#[]⟩
noncomputable def nW(P:Params):Obj:=⟨(.type "tuple"),none,(.seq #[(.ref 427)] 0),#[]⟩
noncomputable def uv(P:Params):Obj:=⟨(.type "tuple"),none,(.seq #[(.int (.ofNat 1) 774),(.str OW 775),(.str Nn 776)] 0),#[]⟩
noncomputable def qP(P:Params):Obj:=⟨(.type "tuple"),none,(.seq #[(.ref 429)] 0),#[]⟩
noncomputable def oD(P:Params):Obj:=⟨(.type "tuple"),none,(.seq #[] 0),#[]⟩
noncomputable def F4(P:Params):Obj:=⟨.none,none,(.fields #[]),#[]⟩
noncomputable def oQ(P:Params):Obj:=⟨(.type "tuple"),none,(.seq #[(.str jf 786),(.str IE 787),(.str aaT 788),(.str acj 789),(.str Nv 790)] 0),#[]⟩
noncomputable def uO(P:Params):Obj:=⟨(.type "tuple"),none,(.seq #[] 0),#[]⟩
noncomputable def Ei(P:Params):Obj:=⟨.none,none,(.func ⟨mZ,mZ,L2.ak (ht 41), .stmts (L2.ai (ht 41)),L2.ae (ht 41),0,[], .none, .none, .none, .none,none, .none, .none,0⟩),#[]⟩
noncomputable def pU(P:Params):Obj:=⟨(.type "code"),none,(.fields #[(.str mZ 783),(.str mZ 784),(.str aw 785),(HD.i 144),(HD.i 2),(HD.i 0),(HD.i 0),(HD.i 3),(.ref 431),(.bool true),(HD.i 181),(.ref 432), .none,(.ref 433),(.ref 434),(.ref 435),(HD.i 791),(HD.i 144),(.str aw 792)]),#[]⟩
noncomputable def sk(P:Params):Obj:=⟨(.type "function"),none,(.func ⟨mZ,mZ,L2.ak (ht 41), .stmts (L2.ai (ht 41)),L2.ae (ht 41),3,[], .none, .none, .none,(.str Iz 752),none,(.ref 436), .none,0⟩),#[]⟩
noncomputable def tQ(P:Params):Obj:=⟨(.type "tuple"),none,(.seq #[] 0),#[]⟩
noncomputable def E5(P:Params):Obj:=⟨.none,none,(.fields #[]),#[]⟩
noncomputable def nV(P:Params):Obj:=⟨(.type "tuple"),none,(.seq #[(.str jf 797),(.str OF 798)] 0),#[]⟩
noncomputable def qG(P:Params):Obj:=⟨(.type "tuple"),none,(.seq #[] 0),#[]⟩
noncomputable def DW(P:Params):Obj:=⟨.none,none,(.func ⟨nC,nC,L2.ak (ht 42), .stmts (L2.ai (ht 42)),L2.ae (ht 42),0,[], .none, .none, .none, .none,none, .none, .none,0⟩),#[]⟩
noncomputable def rK(P:Params):Obj:=⟨(.type "code"),none,(.fields #[(.str nC 794),(.str nC 795),(.str aw 796),(HD.i 151),(HD.i 1),(HD.i 0),(HD.i 0),(HD.i 3),(.ref 438),(.bool true),(HD.i 181),(.ref 439), .none,(.ref 440),(.ref 441),(.ref 442),(HD.i 799),(HD.i 151),(.str aw 800)]),#[]⟩
noncomputable def tN(P:Params):Obj:=⟨(.type "function"),none,(.func ⟨nC,nC,L2.ak (ht 42), .stmts (L2.ai (ht 42)),L2.ae (ht 42),3,[], .none, .none, .none,(.str Iz 752),none,(.ref 443), .none,0⟩),#[]⟩
noncomputable def oV(P:Params):Obj:=⟨(.type "tuple"),none,(.seq #[] 0),#[]⟩
noncomputable def GU(P:Params):Obj:=⟨.none,none,(.fields #[]),#[]⟩
noncomputable def um(P:Params):Obj:=⟨(.type "tuple"),none,(.seq #[(.str jf 805),(.str Nv 806),(.str IE 807)] 0),#[]⟩
noncomputable def uf(P:Params):Obj:=⟨(.type "tuple"),none,(.seq #[] 0),#[]⟩
noncomputable def Il(P:Params):Obj:=⟨.none,none,(.func ⟨m5,m5,L2.ak (ht 43), .stmts (L2.ai (ht 43)),L2.ae (ht 43),0,[], .none, .none, .none, .none,none, .none, .none,0⟩),#[]⟩
noncomputable def o8(P:Params):Obj:=⟨(.type "code"),none,(.fields #[(.str m5 802),(.str m5 803),(.str aw 804),(HD.i 154),(HD.i 3),(HD.i 0),(HD.i 0),(HD.i 3),(.ref 445),(.bool true),(HD.i 181),(.ref 446), .none,(.ref 447),(.ref 448),(.ref 449),(HD.i 808),(HD.i 154),(.str aw 809)]),#[]⟩
noncomputable def qU(P:Params):Obj:=⟨(.type "function"),none,(.func ⟨m5,m5,L2.ak (ht 43), .stmts (L2.ai (ht 43)),L2.ae (ht 43),3,[], .none, .none, .none,(.str Iz 752),none,(.ref 450), .none,0⟩),#[]⟩
noncomputable def pz(P:Params):Obj:=⟨(.type "tuple"),none,(.seq #[] 0),#[]⟩
noncomputable def Ij(P:Params):Obj:=⟨.none,none,(.fields #[]),#[]⟩
noncomputable def oC(P:Params):Obj:=⟨(.type "tuple"),none,(.seq #[(.str jf 814),(.str L9 815),(.str IE 816),(.str Pr 817),(.str Nv 818)] 0),#[]⟩
noncomputable def qi(P:Params):Obj:=⟨(.type "tuple"),none,(.seq #[] 0),#[]⟩
noncomputable def F9(P:Params):Obj:=⟨.none,none,(.func ⟨nK,nK,L2.ak (ht 44), .stmts (L2.ai (ht 44)),L2.ae (ht 44),0,[], .none, .none, .none, .none,none, .none, .none,0⟩),#[]⟩
noncomputable def tH(P:Params):Obj:=⟨(.type "code"),none,(.fields #[(.str nK 811),(.str nK 812),(.str aw 813),(HD.i 166),(HD.i 3),(HD.i 0),(HD.i 0),(HD.i 3),(.ref 452),(.bool true),(HD.i 181),(.ref 453), .none,(.ref 454),(.ref 455),(.ref 456),(HD.i 819),(HD.i 166),(.str aw 820)]),#[]⟩
noncomputable def sT(P:Params):Obj:=⟨(.type "function"),none,(.func ⟨nK,nK,L2.ak (ht 44), .stmts (L2.ai (ht 44)),L2.ae (ht 44),3,[], .none, .none, .none,(.str Iz 752),none,(.ref 457), .none,0⟩),#[]⟩
noncomputable def VR:List Stmt:=[ht 34,ht 35,ht 36,ht 37,ht 38,ht 39,ht 40,ht 41,ht 42,ht 43,ht 44]
noncomputable def T18(P:Params):BT:=(((((((((((((((((((((((((((((((((((((((((((((((((((((((((((((((((((((T17 P).ins (nat_lit 3) (ZW P)).ins (nat_lit 12) (Tq P)).ins (nat_lit 393) (o_ P)).ins (nat_lit 394) (Hz P)).ins (nat_lit 395) (rX P)).ins (nat_lit 396) (uU P)).ins (nat_lit 397) (Ey P)).ins (nat_lit 398) (uF P)).ins (nat_lit 399) (pN P)).ins (nat_lit 400) (n_ P)).ins (nat_lit 401) (Hd P)).ins (nat_lit 402) (Ie P)).ins (nat_lit 403) (nX P)).ins (nat_lit 404) (qW P)).ins (nat_lit 405) (uS P)).ins (nat_lit 406) (Fo P)).ins (nat_lit 407) (sO P)).ins (nat_lit 408) (pe P)).ins (nat_lit 409) (Ih P)).ins (nat_lit 410) (sP P)).ins (nat_lit 411) (oI P)).ins (nat_lit 412) (sE P)).ins (nat_lit 413) (D4 P)).ins (nat_lit 414) (qD P)).ins (nat_lit 415) (rZ P)).ins (nat_lit 416) (E9 P)).ins (nat_lit 417) (sW P)).ins (nat_lit 418) (nN P)).ins (nat_lit 419) (om P)).ins (nat_lit 420) (tD P)).ins (nat_lit 421) (n0 P)).ins (nat_lit 422) (oX P)).ins (nat_lit 423) (oW P)).ins (nat_lit 424) (pQ P)).ins (nat_lit 425) (pI P)).ins (nat_lit 426) (tV P)).ins (nat_lit 427) (oE P)).ins (nat_lit 428) (nW P)).ins (nat_lit 429) (uv P)).ins (nat_lit 430) (qP P)).ins (nat_lit 431) (oD P)).ins (nat_lit 432) (F4 P)).ins (nat_lit 433) (oQ P)).ins (nat_lit 434) (uO P)).ins (nat_lit 435) (Ei P)).ins (nat_lit 436) (pU P)).ins (nat_lit 437) (sk P)).ins (nat_lit 438) (tQ P)).ins (nat_lit 439) (E5 P)).ins (nat_lit 440) (nV P)).ins (nat_lit 441) (qG P)).ins (nat_lit 442) (DW P)).ins (nat_lit 443) (rK P)).ins (nat_lit 444) (tN P)).ins (nat_lit 445) (oV P)).ins (nat_lit 446) (GU P)).ins (nat_lit 447) (um P)).ins (nat_lit 448) (uf P)).ins (nat_lit 449) (Il P)).ins (nat_lit 450) (o8 P)).ins (nat_lit 451) (qU P)).ins (nat_lit 452) (pz P)).ins (nat_lit 453) (Ij P)).ins (nat_lit 454) (oC P)).ins (nat_lit 455) (qi P)).ins (nat_lit 456) (F9 P)).ins (nat_lit 457) (tH P)).ins (nat_lit 458) (sT P))
noncomputable def acd:Life:=⟨[],[],[],0,[],[],false,#[],[],0,false,false,false,(.ofNat 0),[(.ofNat 2000),(.ofNat 10),(.ofNat 10)],false,0,true,[],[],0,false⟩
noncomputable abbrev QY(w:World)(os:OsState):SharedT:=⟨T18 w.params,nat_lit 459,acd,Array.mk [],⟨0,0,0,0⟩,nat_lit 822,os⟩
noncomputable def YS(w:World):(OsState->Option (Flow×SharedT×Code×Pos))×(OsState->Option (Flow×SharedT×Code×Pos)):=(λos=>segRunT treeTable pw (w.withFollow "special-get-raises" false) (nat_lit 11) (some (.ref 6)) (nat_lit 1) (nat_lit 391) (N9 (w.withFollow "special-get-raises" false) os) (piecesOf VR hE hC ⟨115,0,121,31⟩ hB),λos=>some (Flow.next,QY (w.withFollow "special-get-raises" false) os,hC,⟨166,0,171,62⟩))
theorem PL:(λw:World=>HD.seg pw (nat_lit 11) (some (.ref 6)) (nat_lit 391) N9 QY VR hE hC ⟨115,0,121,31⟩ ⟨166,0,171,62⟩ hB (w.withFollow "special-get-raises" false))=YS:=by kernel_rfl
name_quick EE for YS by PL
theorem ack(w:World):(Fast.EE w).1=(Fast.EE w).2:=by kernel_rfl
noncomputable def Yp(w:World):(OsState->Option (Flow×SharedT×Code×Pos))×(OsState->Option (Flow×SharedT×Code×Pos)):=(λos=>segRunT treeTable pw (w.withFollow "special-get-raises" true) (nat_lit 11) (some (.ref 6)) (nat_lit 1) (nat_lit 391) (N9 (w.withFollow "special-get-raises" true) os) (piecesOf VR hE hC ⟨115,0,121,31⟩ hB),λos=>some (Flow.next,QY (w.withFollow "special-get-raises" true) os,hC,⟨166,0,171,62⟩))
theorem PJ:(λw:World=>HD.seg pw (nat_lit 11) (some (.ref 6)) (nat_lit 391) N9 QY VR hE hC ⟨115,0,121,31⟩ ⟨166,0,171,62⟩ hB (w.withFollow "special-get-raises" true))=Yp:=by kernel_rfl
name_quick Gj for Yp by PJ
theorem acf(w:World):(Fast.Gj w).1=(Fast.Gj w).2:=by kernel_rfl
theorem h18:HD.Ok (HD.seg pw (nat_lit 11) (some (.ref 6)) (nat_lit 391) N9 QY VR hE hC ⟨115,0,121,31⟩ ⟨166,0,171,62⟩ hB):=HD.NY "special-get-raises" Fast.EE_eq Fast.Gj_eq ack acf
noncomputable def Zs(P:Params):Obj:=⟨(.type "dict"),none,(.dict #[⟨(PyData.keyHash P x0),(.str x0 165),(.str ll 860)⟩,⟨(PyData.keyHash P x2),(.str x2 166), .none⟩,⟨(PyData.keyHash P x3),(.str x3 167), .none⟩,⟨(PyData.keyHash P x4),(.str x4 168),(.builtin "__main__.__loader__#opaque")⟩,⟨(PyData.keyHash P x5),(.str x5 169), .none⟩,⟨(PyData.keyHash P cC),(.str cC 170),(.ref 6)⟩,⟨(PyData.keyHash P cA),(.str cA 171),(.ref 4)⟩,⟨(PyData.keyHash P cB),(.str cB 173),(.str aw 172)⟩,⟨(PyData.keyHash P cD),(.str cD 174), .none⟩,⟨(PyData.keyHash P bY),(.str bY 193),(.ref 21)⟩,⟨(PyData.keyHash P aL),(.str aL 220),(.ref 38)⟩,⟨(PyData.keyHash P bZ),(.str bZ 243),(.ref 58)⟩,⟨(PyData.keyHash P ck),(.str ck 266),(.ref 77)⟩,⟨(PyData.keyHash P cy),(.str cy 289),(.ref 96)⟩,⟨(PyData.keyHash P cG),(.str cG 312),(.ref 115)⟩,⟨(PyData.keyHash P cK),(.str cK 335),(.ref 134)⟩,⟨(PyData.keyHash P cO),(.str cO 358),(.ref 153)⟩,⟨(PyData.keyHash P c9),(.str c9 381),(.ref 172)⟩,⟨(PyData.keyHash P dy),(.str dy 404),(.ref 191)⟩,⟨(PyData.keyHash P dQ),(.str dQ 427),(.ref 210)⟩,⟨(PyData.keyHash P en),(.str en 450),(.ref 229)⟩,⟨(PyData.keyHash P eL),(.str eL 473),(.ref 248)⟩,⟨(PyData.keyHash P fe),(.str fe 496),(.ref 267)⟩,⟨(PyData.keyHash P fP),(.str fP 519),(.ref 286)⟩,⟨(PyData.keyHash P gu),(.str gu 542),(.ref 305)⟩,⟨(PyData.keyHash P nJ),(.str nJ 546),(.int (.ofNat 600) 545)⟩,⟨(PyData.keyHash P nE),(.str nE 548),(.int (.ofNat 40) 547)⟩,⟨(PyData.keyHash P nD),(.str nD 550),(.int (.ofNat 99) 549)⟩,⟨(PyData.keyHash P wz),(.str wz 615),(.ref 308)⟩,⟨(PyData.keyHash P Cr),(.str Cr 631),(.ref 328)⟩,⟨(PyData.keyHash P lx),(.str lx 638),(.ref 335)⟩,⟨(PyData.keyHash P kY),(.str kY 644),(.ref 340)⟩,⟨(PyData.keyHash P kh),(.str kh 651),(.ref 347)⟩,⟨(PyData.keyHash P lj),(.str lj 657),(.ref 352)⟩,⟨(PyData.keyHash P jN),(.str jN 663),(.ref 357)⟩,⟨(PyData.keyHash P kL),(.str kL 670),(.ref 364)⟩,⟨(PyData.keyHash P ly),(.str ly 678),(.ref 371)⟩,⟨(PyData.keyHash P jO),(.str jO 689),(.ref 378)⟩,⟨(PyData.keyHash P kB),(.str kB 699),(.ref 385)⟩,⟨(PyData.keyHash P km),(.str km 710),(.ref 392)⟩,⟨(PyData.keyHash P m7),(.str m7 719),(.ref 399)⟩,⟨(PyData.keyHash P nB),(.str nB 727),(.ref 404)⟩,⟨(PyData.keyHash P ni),(.str ni 739),(.ref 411)⟩,⟨(PyData.keyHash P nF),(.str nF 751),(.ref 418)⟩,⟨(PyData.keyHash P IS),(.str IS 782),(.ref 419)⟩,⟨(PyData.keyHash P mZ),(.str mZ 793),(.ref 437)⟩,⟨(PyData.keyHash P nC),(.str nC 801),(.ref 444)⟩,⟨(PyData.keyHash P m5),(.str m5 810),(.ref 451)⟩,⟨(PyData.keyHash P nK),(.str nK 821),(.ref 458)⟩,⟨(PyData.keyHash P xg),(.str xg 833),(.ref 465)⟩,⟨(PyData.keyHash P wI),(.str wI 847),(.ref 472)⟩,⟨(PyData.keyHash P wX),(.str wX 859),(.ref 479)⟩,⟨(PyData.keyHash P wC),(.str wC 872),(.ref 486)⟩,⟨(PyData.keyHash P wQ),(.str wQ 884),(.ref 493)⟩,⟨(PyData.keyHash P wJ),(.str wJ 892),(.ref 500)⟩,⟨(PyData.keyHash P wG),(.str wG 899),(.ref 507)⟩,⟨(PyData.keyHash P wK),(.str wK 908),(.ref 514)⟩,⟨(PyData.keyHash P wA),(.str wA 915),(.ref 521)⟩,⟨(PyData.keyHash P wW),(.str wW 924),(.ref 528)⟩,⟨(PyData.keyHash P wU),(.str wU 931),(.ref 535)⟩,⟨(PyData.keyHash P xi),(.str xi 937),(.ref 540)⟩] 61),#[]⟩
noncomputable def SR(P:Params):Obj:=⟨.none,none,(.fields #[(HD.i 1),(HD.i 0),(.ref 20),(HD.i 5),(HD.i 0),(.ref 27),(HD.i 9),(HD.i 0),(.ref 47),(HD.i 13),(HD.i 0),(.ref 66),(HD.i 17),(HD.i 0),(.ref 85),(HD.i 21),(HD.i 0),(.ref 104),(HD.i 25),(HD.i 0),(.ref 123),(HD.i 29),(HD.i 0),(.ref 142),(HD.i 33),(HD.i 0),(.ref 161),(HD.i 37),(HD.i 0),(.ref 180),(HD.i 41),(HD.i 0),(.ref 199),(HD.i 45),(HD.i 0),(.ref 218),(HD.i 49),(HD.i 0),(.ref 237),(HD.i 53),(HD.i 0),(.ref 256),(HD.i 57),(HD.i 0),(.ref 275),(HD.i 61),(HD.i 0),(.ref 294),(HD.i 71),(HD.i 0),(.ref 334),(HD.i 73),(HD.i 0),(.ref 339),(HD.i 85),(HD.i 0),(.ref 346),(HD.i 89),(HD.i 0),(.ref 351),(HD.i 92),(HD.i 0),(.ref 356),(HD.i 96),(HD.i 0),(.ref 363),(HD.i 100),(HD.i 0),(.ref 370),(HD.i 105),(HD.i 0),(.ref 377),(HD.i 110),(HD.i 0),(.ref 384),(HD.i 115),(HD.i 0),(.ref 391),(HD.i 122),(HD.i 0),(.ref 398),(HD.i 125),(HD.i 0),(.ref 403),(HD.i 130),(HD.i 0),(.ref 410),(HD.i 135),(HD.i 0),(.ref 417),(HD.i 144),(HD.i 0),(.ref 436),(HD.i 151),(HD.i 0),(.ref 443),(HD.i 154),(HD.i 0),(.ref 450),(HD.i 166),(HD.i 0),(.ref 457),(HD.i 172),(HD.i 0),(.ref 464),(HD.i 182),(HD.i 0),(.ref 471),(HD.i 193),(HD.i 0),(.ref 478),(HD.i 201),(HD.i 0),(.ref 485),(HD.i 209),(HD.i 0),(.ref 492),(HD.i 221),(HD.i 0),(.ref 499),(HD.i 224),(HD.i 0),(.ref 506),(HD.i 228),(HD.i 0),(.ref 513),(HD.i 234),(HD.i 0),(.ref 520),(HD.i 240),(HD.i 0),(.ref 527),(HD.i 244),(HD.i 0),(.ref 534),(HD.i 250),(HD.i 0),(.ref 539)]),#[]⟩
noncomputable def pG(P:Params):Obj:=⟨(.type "tuple"),none,(.seq #[] 0),#[]⟩
noncomputable def HR(P:Params):Obj:=⟨.none,none,(.fields #[]),#[]⟩
noncomputable def qX(P:Params):Obj:=⟨(.type "tuple"),none,(.seq #[(.str jf 825),(.str IE 826),(.str Nv 827),(.str OF 828),(.str Zn 829),(.str Zf 830)] 0),#[]⟩
noncomputable def sS(P:Params):Obj:=⟨(.type "tuple"),none,(.seq #[] 0),#[]⟩
noncomputable def Gw(P:Params):Obj:=⟨.none,none,(.func ⟨xg,xg,L2.ak (ht 45), .stmts (L2.ai (ht 45)),L2.ae (ht 45),0,[], .none, .none, .none, .none,none, .none, .none,0⟩),#[]⟩
noncomputable def n6(P:Params):Obj:=⟨(.type "code"),none,(.fields #[(.str xg 822),(.str xg 823),(.str aw 824),(HD.i 172),(HD.i 2),(HD.i 0),(HD.i 0),(HD.i 3),(.ref 459),(.bool true),(HD.i 181),(.ref 460), .none,(.ref 461),(.ref 462),(.ref 463),(HD.i 831),(HD.i 172),(.str aw 832)]),#[]⟩
noncomputable def qH(P:Params):Obj:=⟨(.type "function"),none,(.func ⟨xg,xg,L2.ak (ht 45), .stmts (L2.ai (ht 45)),L2.ae (ht 45),3,[], .none, .none, .none,(.str Iz 752),none,(.ref 464), .none,0⟩),#[]⟩
noncomputable def oS(P:Params):Obj:=⟨(.type "tuple"),none,(.seq #[] 0),#[]⟩
noncomputable def EA(P:Params):Obj:=⟨.none,none,(.fields #[]),#[]⟩
noncomputable def qx(P:Params):Obj:=⟨(.type "tuple"),none,(.seq #[(.str jf 839),(.str aaS 840),(.str IE 841),(.str Pr 842),(.str Xd 843),(.str Zf 844)] 0),#[]⟩
noncomputable def sY(P:Params):Obj:=⟨(.type "tuple"),none,(.seq #[] 0),#[]⟩
noncomputable def Hs(P:Params):Obj:=⟨.none,none,(.func ⟨wI,wI,L2.ak (ht 47), .stmts (L2.ai (ht 47)),L2.ae (ht 47),0,[], .none, .none, .none, .none,none, .none, .none,0⟩),#[]⟩
noncomputable def tq(P:Params):Obj:=⟨(.type "code"),none,(.fields #[(.str wI 836),(.str wI 837),(.str aw 838),(HD.i 182),(HD.i 3),(HD.i 0),(HD.i 0),(HD.i 3),(.ref 466),(.bool true),(HD.i 181),(.ref 467), .none,(.ref 468),(.ref 469),(.ref 470),(HD.i 845),(HD.i 182),(.str aw 846)]),#[]⟩
noncomputable def rD(P:Params):Obj:=⟨(.type "function"),none,(.func ⟨wI,wI,L2.ak (ht 47), .stmts (L2.ai (ht 47)),L2.ae (ht 47),3,[], .none, .none, .none,(.str Xb 834),none,(.ref 471), .none,0⟩),#[]⟩
noncomputable def tJ(P:Params):Obj:=⟨(.type "tuple"),none,(.seq #[] 0),#[]⟩
noncomputable def DT(P:Params):Obj:=⟨.none,none,(.fields #[]),#[]⟩
noncomputable def qB(P:Params):Obj:=⟨(.type "tuple"),none,(.seq #[(.str jf 851),(.str Xd 852),(.str IE 853),(.str Pr 854),(.str L9 855),(.str Nv 856)] 0),#[]⟩
noncomputable def uB(P:Params):Obj:=⟨(.type "tuple"),none,(.seq #[] 0),#[]⟩
noncomputable def G2(P:Params):Obj:=⟨.none,none,(.func ⟨wX,wX,L2.ak (ht 48), .stmts (L2.ai (ht 48)),L2.ae (ht 48),0,[], .none, .none, .none, .none,none, .none, .none,0⟩),#[]⟩
noncomputable def pJ(P:Params):Obj:=⟨(.type "code"),none,(.fields #[(.str wX 848),(.str wX 849),(.str aw 850),(HD.i 193),(HD.i 3),(HD.i 0),(HD.i 0),(HD.i 3),(.ref 473),(.bool true),(HD.i 181),(.ref 474), .none,(.ref 475),(.ref 476),(.ref 477),(HD.i 857),(HD.i 193),(.str aw 858)]),#[]⟩
noncomputable def oU(P:Params):Obj:=⟨(.type "function"),none,(.func ⟨wX,wX,L2.ak (ht 48), .stmts (L2.ai (ht 48)),L2.ae (ht 48),3,[], .none, .none, .none,(.str Xb 834),none,(.ref 478), .none,0⟩),#[]⟩
noncomputable def qv(P:Params):Obj:=⟨(.type "tuple"),none,(.seq #[] 0),#[]⟩
noncomputable def HX(P:Params):Obj:=⟨.none,none,(.fields #[]),#[]⟩
noncomputable def qT(P:Params):Obj:=⟨(.type "tuple"),none,(.seq #[(.str Ux 865),(.str UJ 866),(.str OP 867),(.str abF 868),(.str acq 869)] 0),#[]⟩
noncomputable def uQ(P:Params):Obj:=⟨(.type "tuple"),none,(.seq #[] 0),#[]⟩
noncomputable def FF(P:Params):Obj:=⟨.none,none,(.func ⟨wC,wC,L2.ak (ht 50), .stmts (L2.ai (ht 50)),L2.ae (ht 50),0,[], .none, .none, .none, .none,none, .none, .none,0⟩),#[]⟩
noncomputable def ph(P:Params):Obj:=⟨(.type "code"),none,(.fields #[(.str wC 862),(.str wC 863),(.str aw 864),(HD.i 201),(HD.i 3),(HD.i 0),(HD.i 0),(HD.i 3),(.ref 480),(.bool true),(HD.i 181),(.ref 481), .none,(.ref 482),(.ref 483),(.ref 484),(HD.i 870),(HD.i 201),(.str aw 871)]),#[]⟩
noncomputable def nP(P:Params):Obj:=⟨(.type "function"),none,(.func ⟨wC,wC,L2.ak (ht 50), .stmts (L2.ai (ht 50)),L2.ae (ht 50),3,[], .none, .none, .none,(.str ll 860),none,(.ref 485), .none,0⟩),#[]⟩
noncomputable def oK(P:Params):Obj:=⟨(.type "tuple"),none,(.seq #[] 0),#[]⟩
noncomputable def HF(P:Params):Obj:=⟨.none,none,(.fields #[]),#[]⟩
noncomputable def qR(P:Params):Obj:=⟨(.type "tuple"),none,(.seq #[(.str IG 876),(.str aas 877),(.str YL 878),(.str abI 879),(.str abS 880),(.str Wt 881)] 0),#[]⟩
noncomputable def sF(P:Params):Obj:=⟨(.type "tuple"),none,(.seq #[] 0),#[]⟩
noncomputable def EU(P:Params):Obj:=⟨.none,none,(.func ⟨wQ,wQ,L2.ak (ht 51), .stmts (L2.ai (ht 51)),L2.ae (ht 51),0,[], .none, .none, .none, .none,none, .none, .none,0⟩),#[]⟩
noncomputable def sM(P:Params):Obj:=⟨(.type "code"),none,(.fields #[(.str wQ 873),(.str wQ 874),(.str aw 875),(HD.i 209),(HD.i 1),(HD.i 0),(HD.i 0),(HD.i 3),(.ref 487),(.bool true),(HD.i 181),(.ref 488), .none,(.ref 489),(.ref 490),(.ref 491),(HD.i 882),(HD.i 209),(.str aw 883)]),#[]⟩
noncomputable def pZ(P:Params):Obj:=⟨(.type "function"),none,(.func ⟨wQ,wQ,L2.ak (ht 51), .stmts (L2.ai (ht 51)),L2.ae (ht 51),3,[], .none, .none, .none,(.str ll 860),none,(.ref 492), .none,0⟩),#[]⟩
noncomputable def uA(P:Params):Obj:=⟨(.type "tuple"),none,(.seq #[] 0),#[]⟩
noncomputable def HN(P:Params):Obj:=⟨.none,none,(.fields #[]),#[]⟩
noncomputable def oj(P:Params):Obj:=⟨(.type "tuple"),none,(.seq #[(.str IG 888),(.str Wt 889)] 0),#[]⟩
noncomputable def oH(P:Params):Obj:=⟨(.type "tuple"),none,(.seq #[] 0),#[]⟩
noncomputable def Eb(P:Params):Obj:=⟨.none,none,(.func ⟨wJ,wJ,L2.ak (ht 52), .stmts (L2.ai (ht 52)),L2.ae (ht 52),0,[], .none, .none, .none, .none,none, .none, .none,0⟩),#[]⟩
noncomputable def qE(P:Params):Obj:=⟨(.type "code"),none,(.fields #[(.str wJ 885),(.str wJ 886),(.str aw 887),(HD.i 221),(HD.i 1),(HD.i 0),(HD.i 0),(HD.i 3),(.ref 494),(.bool true),(HD.i 181),(.ref 495), .none,(.ref 496),(.ref 497),(.ref 498),(HD.i 890),(HD.i 221),(.str aw 891)]),#[]⟩
noncomputable def uI(P:Params):Obj:=⟨(.type "function"),none,(.func ⟨wJ,wJ,L2.ak (ht 52), .stmts (L2.ai (ht 52)),L2.ae (ht 52),3,[], .none, .none, .none,(.str ll 860),none,(.ref 499), .none,0⟩),#[]⟩
noncomputable def pR(P:Params):Obj:=⟨(.type "tuple"),none,(.seq #[] 0),#[]⟩
noncomputable def GW(P:Params):Obj:=⟨.none,none,(.fields #[]),#[]⟩
noncomputable def uG(P:Params):Obj:=⟨(.type "tuple"),none,(.seq #[(.str IG 896)] 0),#[]⟩
noncomputable def uM(P:Params):Obj:=⟨(.type "tuple"),none,(.seq #[] 0),#[]⟩
noncomputable def FW(P:Params):Obj:=⟨.none,none,(.func ⟨wG,wG,L2.ak (ht 53), .stmts (L2.ai (ht 53)),L2.ae (ht 53),0,[], .none, .none, .none, .none,none, .none, .none,0⟩),#[]⟩
noncomputable def qh(P:Params):Obj:=⟨(.type "code"),none,(.fields #[(.str wG 893),(.str wG 894),(.str aw 895),(HD.i 224),(HD.i 1),(HD.i 0),(HD.i 0),(HD.i 3),(.ref 501),(.bool true),(HD.i 181),(.ref 502), .none,(.ref 503),(.ref 504),(.ref 505),(HD.i 897),(HD.i 224),(.str aw 898)]),#[]⟩
noncomputable def oB(P:Params):Obj:=⟨(.type "function"),none,(.func ⟨wG,wG,L2.ak (ht 53), .stmts (L2.ai (ht 53)),L2.ae (ht 53),3,[], .none, .none, .none,(.str ll 860),none,(.ref 506), .none,0⟩),#[]⟩
noncomputable def rM(P:Params):Obj:=⟨(.type "tuple"),none,(.seq #[] 0),#[]⟩
noncomputable def Hy(P:Params):Obj:=⟨.none,none,(.fields #[]),#[]⟩
noncomputable def oF(P:Params):Obj:=⟨(.type "tuple"),none,(.seq #[(.str W0 903),(.str abZ 904),(.str acz 905)] 0),#[]⟩
noncomputable def pT(P:Params):Obj:=⟨(.type "tuple"),none,(.seq #[] 0),#[]⟩
noncomputable def Fm(P:Params):Obj:=⟨.none,none,(.func ⟨wK,wK,L2.ak (ht 54), .stmts (L2.ai (ht 54)),L2.ae (ht 54),0,[], .none, .none, .none, .none,none, .none, .none,0⟩),#[]⟩
noncomputable def pF(P:Params):Obj:=⟨(.type "code"),none,(.fields #[(.str wK 900),(.str wK 901),(.str aw 902),(HD.i 228),(HD.i 1),(HD.i 0),(HD.i 0),(HD.i 3),(.ref 508),(.bool true),(HD.i 181),(.ref 509), .none,(.ref 510),(.ref 511),(.ref 512),(HD.i 906),(HD.i 228),(.str aw 907)]),#[]⟩
noncomputable def pM(P:Params):Obj:=⟨(.type "function"),none,(.func ⟨wK,wK,L2.ak (ht 54), .stmts (L2.ai (ht 54)),L2.ae (ht 54),3,[], .none, .none, .none,(.str ll 860),none,(.ref 513), .none,0⟩),#[]⟩
noncomputable def tX(P:Params):Obj:=⟨(.type "tuple"),none,(.seq #[] 0),#[]⟩
noncomputable def EC(P:Params):Obj:=⟨.none,none,(.fields #[]),#[]⟩
noncomputable def ue(P:Params):Obj:=⟨(.type "tuple"),none,(.seq #[(.str OP 912)] 0),#[]⟩
noncomputable def qZ(P:Params):Obj:=⟨(.type "tuple"),none,(.seq #[] 0),#[]⟩
noncomputable def ET(P:Params):Obj:=⟨.none,none,(.func ⟨wA,wA,L2.ak (ht 55), .stmts (L2.ai (ht 55)),L2.ae (ht 55),0,[], .none, .none, .none, .none,none, .none, .none,0⟩),#[]⟩
noncomputable def tw(P:Params):Obj:=⟨(.type "code"),none,(.fields #[(.str wA 909),(.str wA 910),(.str aw 911),(HD.i 234),(HD.i 1),(HD.i 0),(HD.i 0),(HD.i 3),(.ref 515),(.bool true),(HD.i 181),(.ref 516), .none,(.ref 517),(.ref 518),(.ref 519),(HD.i 913),(HD.i 234),(.str aw 914)]),#[]⟩
noncomputable def qC(P:Params):Obj:=⟨(.type "function"),none,(.func ⟨wA,wA,L2.ak (ht 55), .stmts (L2.ai (ht 55)),L2.ae (ht 55),3,[], .none, .none, .none,(.str ll 860),none,(.ref 520), .none,0⟩),#[]⟩
noncomputable def uz(P:Params):Obj:=⟨(.type "tuple"),none,(.seq #[] 0),#[]⟩
noncomputable def E1(P:Params):Obj:=⟨.none,none,(.fields #[]),#[]⟩
noncomputable def qr(P:Params):Obj:=⟨(.type "tuple"),none,(.seq #[(.str OP 919),(.str IG 920),(.str acw 921)] 0),#[]⟩
noncomputable def oA(P:Params):Obj:=⟨(.type "tuple"),none,(.seq #[] 0),#[]⟩
noncomputable def EK(P:Params):Obj:=⟨.none,none,(.func ⟨wW,wW,L2.ak (ht 56), .stmts (L2.ai (ht 56)),L2.ae (ht 56),0,[], .none, .none, .none, .none,none, .none, .none,0⟩),#[]⟩
noncomputable def tI(P:Params):Obj:=⟨(.type "code"),none,(.fields #[(.str wW 916),(.str wW 917),(.str aw 918),(HD.i 240),(HD.i 2),(HD.i 0),(HD.i 0),(HD.i 3),(.ref 522),(.bool true),(HD.i 181),(.ref 523), .none,(.ref 524),(.ref 525),(.ref 526),(HD.i 922),(HD.i 240),(.str aw 923)]),#[]⟩
noncomputable def sI(P:Params):Obj:=⟨(.type "function"),none,(.func ⟨wW,wW,L2.ak (ht 56), .stmts (L2.ai (ht 56)),L2.ae (ht 56),3,[], .none, .none, .none,(.str ll 860),none,(.ref 527), .none,0⟩),#[]⟩
noncomputable def ua(P:Params):Obj:=⟨(.type "tuple"),none,(.seq #[] 0),#[]⟩
noncomputable def Gm(P:Params):Obj:=⟨.none,none,(.fields #[]),#[]⟩
noncomputable def qo(P:Params):Obj:=⟨(.type "tuple"),none,(.seq #[(.str U2 928)] 0),#[]⟩
noncomputable def uE(P:Params):Obj:=⟨(.type "tuple"),none,(.seq #[] 0),#[]⟩
noncomputable def EW(P:Params):Obj:=⟨.none,none,(.func ⟨wU,wU,L2.ak (ht 57), .stmts (L2.ai (ht 57)),L2.ae (ht 57),0,[], .none, .none, .none, .none,none, .none, .none,0⟩),#[]⟩
noncomputable def sm(P:Params):Obj:=⟨(.type "code"),none,(.fields #[(.str wU 925),(.str wU 926),(.str aw 927),(HD.i 244),(HD.i 1),(HD.i 0),(HD.i 0),(HD.i 3),(.ref 529),(.bool true),(HD.i 181),(.ref 530), .none,(.ref 531),(.ref 532),(.ref 533),(HD.i 929),(HD.i 244),(.str aw 930)]),#[]⟩
noncomputable def sZ(P:Params):Obj:=⟨(.type "function"),none,(.func ⟨wU,wU,L2.ak (ht 57), .stmts (L2.ai (ht 57)),L2.ae (ht 57),3,[], .none, .none, .none,(.str ll 860),none,(.ref 534), .none,0⟩),#[]⟩
noncomputable def rG(P:Params):Obj:=⟨(.type "tuple"),none,(.seq #[] 0),#[]⟩
noncomputable def Fv(P:Params):Obj:=⟨.none,none,(.fields #[]),#[]⟩
noncomputable def FV(P:Params):Obj:=⟨.none,none,(.func ⟨xi,xi,L2.ak (ht 58), .stmts (L2.ai (ht 58)),L2.ae (ht 58),0,[], .none, .none, .none, .none,none, .none, .none,0⟩),#[]⟩
noncomputable def qM(P:Params):Obj:=⟨(.type "code"),none,(.fields #[(.str xi 932),(.str xi 933),(.str aw 934),(HD.i 250),(HD.i 1),(HD.i 0),(HD.i 0),(HD.i 3),(.ref 536),(.bool true),(HD.i 181),(.ref 537), .none, .none, .none,(.ref 538),(HD.i 935),(HD.i 250),(.str aw 936)]),#[]⟩
noncomputable def qp(P:Params):Obj:=⟨(.type "function"),none,(.func ⟨xi,xi,L2.ak (ht 58), .stmts (L2.ai (ht 58)),L2.ae (ht 58),3,[], .none, .none, .none,(.str ll 860),none,(.ref 539), .none,0⟩),#[]⟩
noncomputable def g19:List Stmt:=[ht 45,ht 46,ht 47,ht 48,ht 49,ht 50,ht 51,ht 52,ht 53,ht 54,ht 55,ht 56,ht 57,ht 58]
noncomputable def T19(P:Params):BT:=(((((((((((((((((((((((((((((((((((((((((((((((((((((((((((((((((((((((((((((((((((((T18 P).ins (nat_lit 3) (Zs P)).ins (nat_lit 12) (SR P)).ins (nat_lit 459) (pG P)).ins (nat_lit 460) (HR P)).ins (nat_lit 461) (qX P)).ins (nat_lit 462) (sS P)).ins (nat_lit 463) (Gw P)).ins (nat_lit 464) (n6 P)).ins (nat_lit 465) (qH P)).ins (nat_lit 466) (oS P)).ins (nat_lit 467) (EA P)).ins (nat_lit 468) (qx P)).ins (nat_lit 469) (sY P)).ins (nat_lit 470) (Hs P)).ins (nat_lit 471) (tq P)).ins (nat_lit 472) (rD P)).ins (nat_lit 473) (tJ P)).ins (nat_lit 474) (DT P)).ins (nat_lit 475) (qB P)).ins (nat_lit 476) (uB P)).ins (nat_lit 477) (G2 P)).ins (nat_lit 478) (pJ P)).ins (nat_lit 479) (oU P)).ins (nat_lit 480) (qv P)).ins (nat_lit 481) (HX P)).ins (nat_lit 482) (qT P)).ins (nat_lit 483) (uQ P)).ins (nat_lit 484) (FF P)).ins (nat_lit 485) (ph P)).ins (nat_lit 486) (nP P)).ins (nat_lit 487) (oK P)).ins (nat_lit 488) (HF P)).ins (nat_lit 489) (qR P)).ins (nat_lit 490) (sF P)).ins (nat_lit 491) (EU P)).ins (nat_lit 492) (sM P)).ins (nat_lit 493) (pZ P)).ins (nat_lit 494) (uA P)).ins (nat_lit 495) (HN P)).ins (nat_lit 496) (oj P)).ins (nat_lit 497) (oH P)).ins (nat_lit 498) (Eb P)).ins (nat_lit 499) (qE P)).ins (nat_lit 500) (uI P)).ins (nat_lit 501) (pR P)).ins (nat_lit 502) (GW P)).ins (nat_lit 503) (uG P)).ins (nat_lit 504) (uM P)).ins (nat_lit 505) (FW P)).ins (nat_lit 506) (qh P)).ins (nat_lit 507) (oB P)).ins (nat_lit 508) (rM P)).ins (nat_lit 509) (Hy P)).ins (nat_lit 510) (oF P)).ins (nat_lit 511) (pT P)).ins (nat_lit 512) (Fm P)).ins (nat_lit 513) (pF P)).ins (nat_lit 514) (pM P)).ins (nat_lit 515) (tX P)).ins (nat_lit 516) (EC P)).ins (nat_lit 517) (ue P)).ins (nat_lit 518) (qZ P)).ins (nat_lit 519) (ET P)).ins (nat_lit 520) (tw P)).ins (nat_lit 521) (qC P)).ins (nat_lit 522) (uz P)).ins (nat_lit 523) (E1 P)).ins (nat_lit 524) (qr P)).ins (nat_lit 525) (oA P)).ins (nat_lit 526) (EK P)).ins (nat_lit 527) (tI P)).ins (nat_lit 528) (sI P)).ins (nat_lit 529) (ua P)).ins (nat_lit 530) (Gm P)).ins (nat_lit 531) (qo P)).ins (nat_lit 532) (uE P)).ins (nat_lit 533) (EW P)).ins (nat_lit 534) (sm P)).ins (nat_lit 535) (sZ P)).ins (nat_lit 536) (rG P)).ins (nat_lit 537) (Fv P)).ins (nat_lit 538) (FV P)).ins (nat_lit 539) (qM P)).ins (nat_lit 540) (qp P))
noncomputable def aaM:Life:=⟨[],[],[],0,[],[],false,#[],[],0,false,false,false,(.ofNat 0),[(.ofNat 2000),(.ofNat 10),(.ofNat 10)],false,0,true,[],[],0,false⟩
noncomputable abbrev VM(w:World)(os:OsState):SharedT:=⟨T19 w.params,nat_lit 541,aaM,Array.mk [],⟨0,0,0,0⟩,nat_lit 938,os⟩
noncomputable def q19(w:World):(OsState->Option (Flow×SharedT×Code×Pos))×(OsState->Option (Flow×SharedT×Code×Pos)):=(λos=>segRunT treeTable pw w (nat_lit 11) (some (.ref 6)) (nat_lit 1) (nat_lit 393) (QY w os) (piecesOf g19 hE hC ⟨166,0,171,62⟩ hB),λos=>some (Flow.next,VM w os,hC,⟨250,0,252,123⟩))
theorem UO:HD.seg pw (nat_lit 11) (some (.ref 6)) (nat_lit 393) QY VM g19 hE hC ⟨166,0,171,62⟩ ⟨250,0,252,123⟩ hB=q19:=by kernel_rfl
name_quick KO for q19 by UO
theorem i19(w:World):(Fast.KO w).1=(Fast.KO w).2:=by kernel_rfl
theorem h19:HD.Ok (HD.seg pw (nat_lit 11) (some (.ref 6)) (nat_lit 393) QY VM g19 hE hC ⟨166,0,171,62⟩ ⟨250,0,252,123⟩ hB):=HD.gc Fast.KO_eq i19
noncomputable def EZ(P:Params):Obj:=⟨(.type "dict"),none,(.dict #[⟨(PyData.keyHash P x0),(.str x0 165),(.str ll 860)⟩,⟨(PyData.keyHash P x2),(.str x2 166), .none⟩,⟨(PyData.keyHash P x3),(.str x3 167), .none⟩,⟨(PyData.keyHash P x4),(.str x4 168),(.builtin "__main__.__loader__#opaque")⟩,⟨(PyData.keyHash P x5),(.str x5 169), .none⟩,⟨(PyData.keyHash P cC),(.str cC 170),(.ref 6)⟩,⟨(PyData.keyHash P cA),(.str cA 171),(.ref 4)⟩,⟨(PyData.keyHash P cB),(.str cB 173),(.str aw 172)⟩,⟨(PyData.keyHash P cD),(.str cD 174), .none⟩,⟨(PyData.keyHash P bY),(.str bY 193),(.ref 21)⟩,⟨(PyData.keyHash P aL),(.str aL 220),(.ref 38)⟩,⟨(PyData.keyHash P bZ),(.str bZ 243),(.ref 58)⟩,⟨(PyData.keyHash P ck),(.str ck 266),(.ref 77)⟩,⟨(PyData.keyHash P cy),(.str cy 289),(.ref 96)⟩,⟨(PyData.keyHash P cG),(.str cG 312),(.ref 115)⟩,⟨(PyData.keyHash P cK),(.str cK 335),(.ref 134)⟩,⟨(PyData.keyHash P cO),(.str cO 358),(.ref 153)⟩,⟨(PyData.keyHash P c9),(.str c9 381),(.ref 172)⟩,⟨(PyData.keyHash P dy),(.str dy 404),(.ref 191)⟩,⟨(PyData.keyHash P dQ),(.str dQ 427),(.ref 210)⟩,⟨(PyData.keyHash P en),(.str en 450),(.ref 229)⟩,⟨(PyData.keyHash P eL),(.str eL 473),(.ref 248)⟩,⟨(PyData.keyHash P fe),(.str fe 496),(.ref 267)⟩,⟨(PyData.keyHash P fP),(.str fP 519),(.ref 286)⟩,⟨(PyData.keyHash P gu),(.str gu 542),(.ref 305)⟩,⟨(PyData.keyHash P nJ),(.str nJ 546),(.int (.ofNat 600) 545)⟩,⟨(PyData.keyHash P nE),(.str nE 548),(.int (.ofNat 40) 547)⟩,⟨(PyData.keyHash P nD),(.str nD 550),(.int (.ofNat 99) 549)⟩,⟨(PyData.keyHash P wz),(.str wz 615),(.ref 308)⟩,⟨(PyData.keyHash P Cr),(.str Cr 631),(.ref 328)⟩,⟨(PyData.keyHash P lx),(.str lx 638),(.ref 335)⟩,⟨(PyData.keyHash P kY),(.str kY 644),(.ref 340)⟩,⟨(PyData.keyHash P kh),(.str kh 651),(.ref 347)⟩,⟨(PyData.keyHash P lj),(.str lj 657),(.ref 352)⟩,⟨(PyData.keyHash P jN),(.str jN 663),(.ref 357)⟩,⟨(PyData.keyHash P kL),(.str kL 670),(.ref 364)⟩,⟨(PyData.keyHash P ly),(.str ly 678),(.ref 371)⟩,⟨(PyData.keyHash P jO),(.str jO 689),(.ref 378)⟩,⟨(PyData.keyHash P kB),(.str kB 699),(.ref 385)⟩,⟨(PyData.keyHash P km),(.str km 710),(.ref 392)⟩,⟨(PyData.keyHash P m7),(.str m7 719),(.ref 399)⟩,⟨(PyData.keyHash P nB),(.str nB 727),(.ref 404)⟩,⟨(PyData.keyHash P ni),(.str ni 739),(.ref 411)⟩,⟨(PyData.keyHash P nF),(.str nF 751),(.ref 418)⟩,⟨(PyData.keyHash P IS),(.str IS 782),(.ref 419)⟩,⟨(PyData.keyHash P mZ),(.str mZ 793),(.ref 437)⟩,⟨(PyData.keyHash P nC),(.str nC 801),(.ref 444)⟩,⟨(PyData.keyHash P m5),(.str m5 810),(.ref 451)⟩,⟨(PyData.keyHash P nK),(.str nK 821),(.ref 458)⟩,⟨(PyData.keyHash P xg),(.str xg 833),(.ref 465)⟩,⟨(PyData.keyHash P wI),(.str wI 847),(.ref 472)⟩,⟨(PyData.keyHash P wX),(.str wX 859),(.ref 479)⟩,⟨(PyData.keyHash P wC),(.str wC 872),(.ref 486)⟩,⟨(PyData.keyHash P wQ),(.str wQ 884),(.ref 493)⟩,⟨(PyData.keyHash P wJ),(.str wJ 892),(.ref 500)⟩,⟨(PyData.keyHash P wG),(.str wG 899),(.ref 507)⟩,⟨(PyData.keyHash P wK),(.str wK 908),(.ref 514)⟩,⟨(PyData.keyHash P wA),(.str wA 915),(.ref 521)⟩,⟨(PyData.keyHash P wW),(.str wW 924),(.ref 528)⟩,⟨(PyData.keyHash P wU),(.str wU 931),(.ref 535)⟩,⟨(PyData.keyHash P xi),(.str xi 937),(.ref 540)⟩,⟨(PyData.keyHash P Ci),(.str Ci 958),(.ref 547)⟩,⟨(PyData.keyHash P Cn),(.str Cn 971),(.ref 554)⟩,⟨(PyData.keyHash P Cw),(.str Cw 989),(.ref 561)⟩] 64),#[]⟩
noncomputable def MU(P:Params):Obj:=⟨.none,none,(.fields #[(HD.i 1),(HD.i 0),(.ref 20),(HD.i 5),(HD.i 0),(.ref 27),(HD.i 9),(HD.i 0),(.ref 47),(HD.i 13),(HD.i 0),(.ref 66),(HD.i 17),(HD.i 0),(.ref 85),(HD.i 21),(HD.i 0),(.ref 104),(HD.i 25),(HD.i 0),(.ref 123),(HD.i 29),(HD.i 0),(.ref 142),(HD.i 33),(HD.i 0),(.ref 161),(HD.i 37),(HD.i 0),(.ref 180),(HD.i 41),(HD.i 0),(.ref 199),(HD.i 45),(HD.i 0),(.ref 218),(HD.i 49),(HD.i 0),(.ref 237),(HD.i 53),(HD.i 0),(.ref 256),(HD.i 57),(HD.i 0),(.ref 275),(HD.i 61),(HD.i 0),(.ref 294),(HD.i 71),(HD.i 0),(.ref 334),(HD.i 73),(HD.i 0),(.ref 339),(HD.i 85),(HD.i 0),(.ref 346),(HD.i 89),(HD.i 0),(.ref 351),(HD.i 92),(HD.i 0),(.ref 356),(HD.i 96),(HD.i 0),(.ref 363),(HD.i 100),(HD.i 0),(.ref 370),(HD.i 105),(HD.i 0),(.ref 377),(HD.i 110),(HD.i 0),(.ref 384),(HD.i 115),(HD.i 0),(.ref 391),(HD.i 122),(HD.i 0),(.ref 398),(HD.i 125),(HD.i 0),(.ref 403),(HD.i 130),(HD.i 0),(.ref 410),(HD.i 135),(HD.i 0),(.ref 417),(HD.i 144),(HD.i 0),(.ref 436),(HD.i 151),(HD.i 0),(.ref 443),(HD.i 154),(HD.i 0),(.ref 450),(HD.i 166),(HD.i 0),(.ref 457),(HD.i 172),(HD.i 0),(.ref 464),(HD.i 182),(HD.i 0),(.ref 471),(HD.i 193),(HD.i 0),(.ref 478),(HD.i 201),(HD.i 0),(.ref 485),(HD.i 209),(HD.i 0),(.ref 492),(HD.i 221),(HD.i 0),(.ref 499),(HD.i 224),(HD.i 0),(.ref 506),(HD.i 228),(HD.i 0),(.ref 513),(HD.i 234),(HD.i 0),(.ref 520),(HD.i 240),(HD.i 0),(.ref 527),(HD.i 244),(HD.i 0),(.ref 534),(HD.i 250),(HD.i 0),(.ref 539),(HD.i 253),(HD.i 0),(.ref 546),(HD.i 278),(HD.i 0),(.ref 553),(HD.i 287),(HD.i 0),(.ref 560)]),#[]⟩
noncomputable def sD(P:Params):Obj:=⟨(.type "tuple"),none,(.seq #[] 0),#[]⟩
noncomputable def Gh(P:Params):Obj:=⟨.none,none,(.fields #[]),#[]⟩
noncomputable def qO(P:Params):Obj:=⟨(.type "tuple"),none,(.seq #[(.str Ux 941),(.str UJ 942),(.str U2 943),(.str UG 944),(.str OP 945),(.str aax 946),(.str Vh 947),(.str aa7 948),(.str aaZ 949),(.str aam 950),(.str Y1 951),(.str YL 952),(.str aa8 953),(.str ab0 954),(.str abC 955)] 0),#[]⟩
noncomputable def nU(P:Params):Obj:=⟨(.type "tuple"),none,(.seq #[] 0),#[]⟩
noncomputable def DS(P:Params):Obj:=⟨.none,none,(.func ⟨Ci,Ci,L2.ak (ht 59), .stmts (L2.ai (ht 59)),L2.ae (ht 59),0,[], .none, .none, .none, .none,none, .none, .none,0⟩),#[]⟩
noncomputable def ux(P:Params):Obj:=⟨(.type "code"),none,(.fields #[(.str Ci 938),(.str Ci 939),(.str aw 940),(HD.i 253),(HD.i 3),(HD.i 0),(HD.i 0),(HD.i 3),(.ref 541),(.bool true),(HD.i 181),(.ref 542), .none,(.ref 543),(.ref 544),(.ref 545),(HD.i 956),(HD.i 253),(.str aw 957)]),#[]⟩
noncomputable def rC(P:Params):Obj:=⟨(.type "function"),none,(.func ⟨Ci,Ci,L2.ak (ht 59), .stmts (L2.ai (ht 59)),L2.ae (ht 59),3,[], .none, .none, .none,(.str ll 860),none,(.ref 546), .none,0⟩),#[]⟩
noncomputable def rW(P:Params):Obj:=⟨(.type "tuple"),none,(.seq #[] 0),#[]⟩
noncomputable def FP(P:Params):Obj:=⟨.none,none,(.fields #[]),#[]⟩
noncomputable def rE(P:Params):Obj:=⟨(.type "tuple"),none,(.seq #[(.str UG 962),(.str IG 963),(.str ZJ 964),(.str YX 965),(.str abJ 966),(.str Vh 967),(.str W0 968)] 0),#[]⟩
noncomputable def uC(P:Params):Obj:=⟨(.type "tuple"),none,(.seq #[] 0),#[]⟩
noncomputable def Hg(P:Params):Obj:=⟨.none,none,(.func ⟨Cn,Cn,L2.ak (ht 60), .stmts (L2.ai (ht 60)),L2.ae (ht 60),0,[], .none, .none, .none, .none,none, .none, .none,0⟩),#[]⟩
noncomputable def pY(P:Params):Obj:=⟨(.type "code"),none,(.fields #[(.str Cn 959),(.str Cn 960),(.str aw 961),(HD.i 278),(HD.i 6),(HD.i 0),(HD.i 0),(HD.i 3),(.ref 548),(.bool true),(HD.i 181),(.ref 549), .none,(.ref 550),(.ref 551),(.ref 552),(HD.i 969),(HD.i 278),(.str aw 970)]),#[]⟩
noncomputable def ud(P:Params):Obj:=⟨(.type "function"),none,(.func ⟨Cn,Cn,L2.ak (ht 60), .stmts (L2.ai (ht 60)),L2.ae (ht 60),3,[], .none, .none, .none,(.str ll 860),none,(.ref 553), .none,0⟩),#[]⟩
noncomputable def o7(P:Params):Obj:=⟨(.type "tuple"),none,(.seq #[] 0),#[]⟩
noncomputable def Ec(P:Params):Obj:=⟨.none,none,(.fields #[]),#[]⟩
noncomputable def rN(P:Params):Obj:=⟨(.type "tuple"),none,(.seq #[(.str Ux 975),(.str UJ 976),(.str U2 977),(.str Y1 978),(.str aa4 979),(.str YX 980),(.str Vh 981),(.str ZJ 982),(.str ab5 983),(.str IG 984),(.str aca 985),(.str UG 986)] 0),#[]⟩
noncomputable def rL(P:Params):Obj:=⟨(.type "tuple"),none,(.seq #[] 0),#[]⟩
noncomputable def F7(P:Params):Obj:=⟨.none,none,(.func ⟨Cw,Cw,L2.ak (ht 61), .stmts (L2.ai (ht 61)),L2.ae (ht 61),0,[], .none, .none, .none, .none,none, .none, .none,0⟩),#[]⟩
noncomputable def tu(P:Params):Obj:=⟨(.type "code"),none,(.fields #[(.str Cw 972),(.str Cw 973),(.str aw 974),(HD.i 287),(HD.i 1),(HD.i 0),(HD.i 0),(HD.i 3),(.ref 555),(.bool true),(HD.i 181),(.ref 556), .none,(.ref 557),(.ref 558),(.ref 559),(HD.i 987),(HD.i 287),(.str aw 988)]),#[]⟩
noncomputable def su(P:Params):Obj:=⟨(.type "function"),none,(.func ⟨Cw,Cw,L2.ak (ht 61), .stmts (L2.ai (ht 61)),L2.ae (ht 61),3,[], .none, .none, .none,(.str ll 860),none,(.ref 560), .none,0⟩),#[]⟩
noncomputable def g20:List Stmt:=[ht 59,ht 60,ht 61]
noncomputable def T20(P:Params):BT:=((((((((((((((((((((((((T19 P).ins (nat_lit 3) (EZ P)).ins (nat_lit 12) (MU P)).ins (nat_lit 541) (sD P)).ins (nat_lit 542) (Gh P)).ins (nat_lit 543) (qO P)).ins (nat_lit 544) (nU P)).ins (nat_lit 545) (DS P)).ins (nat_lit 546) (ux P)).ins (nat_lit 547) (rC P)).ins (nat_lit 548) (rW P)).ins (nat_lit 549) (FP P)).ins (nat_lit 550) (rE P)).ins (nat_lit 551) (uC P)).ins (nat_lit 552) (Hg P)).ins (nat_lit 553) (pY P)).ins (nat_lit 554) (ud P)).ins (nat_lit 555) (o7 P)).ins (nat_lit 556) (Ec P)).ins (nat_lit 557) (rN P)).ins (nat_lit 558) (rL P)).ins (nat_lit 559) (F7 P)).ins (nat_lit 560) (tu P)).ins (nat_lit 561) (su P))
noncomputable def abT:Life:=⟨[],[],[],0,[],[],false,#[],[],0,false,false,false,(.ofNat 0),[(.ofNat 2000),(.ofNat 10),(.ofNat 10)],false,0,true,[],[],0,false⟩
noncomputable abbrev V1(w:World)(os:OsState):SharedT:=⟨T20 w.params,nat_lit 562,abT,Array.mk [],⟨0,0,0,0⟩,nat_lit 990,os⟩
noncomputable def q20(w:World):(OsState->Option (Flow×SharedT×Code×Pos))×(OsState->Option (Flow×SharedT×Code×Pos)):=(λos=>segRunT treeTable pw w (nat_lit 11) (some (.ref 6)) (nat_lit 1) (nat_lit 119) (VM w os) (piecesOf g20 hE hC ⟨250,0,252,123⟩ hB),λos=>some (Flow.next,V1 w os,hC,⟨287,0,313,127⟩))
theorem RY:HD.seg pw (nat_lit 11) (some (.ref 6)) (nat_lit 119) VM V1 g20 hE hC ⟨250,0,252,123⟩ ⟨287,0,313,127⟩ hB=q20:=by kernel_rfl
name_quick LB for q20 by RY
theorem i20(w:World):(Fast.LB w).1=(Fast.LB w).2:=by kernel_rfl
theorem h20:HD.Ok (HD.seg pw (nat_lit 11) (some (.ref 6)) (nat_lit 119) VM V1 g20 hE hC ⟨250,0,252,123⟩ ⟨287,0,313,127⟩ hB):=HD.gc Fast.LB_eq i20
noncomputable def aaR(P:Params)(r:List (Obj)):List (Obj):=PySem.W.boot_o_0 P::PySem.W.boot_o_1 P::PySem.W.boot_o_2 P::EZ P::PySem.W.boot_o_4 P::PySem.W.boot_o_5 P::PySem.W.boot_o_6 P::PySem.W.boot_o_7 P::PySem.W.boot_o_8 P::PySem.W.boot_o_9 P::PySem.W.boot_o_10 P::L_ P::r
noncomputable def aba(P:Params)(r:List (Obj)):List (Obj):=MU P::Kt P::Kq P::El P::Qt P::HQ P::GL P::QO P::Ff P::Ip P::HK P::Rp P::r
noncomputable def abo(P:Params)(r:List (Obj)):List (Obj):=Rm P::Rk P::RO P::Rb P::Rx P::DV P::Q5 P::FT P::FQ P::Rj P::FN P::En P::r
noncomputable def abm(P:Params)(r:List (Obj)):List (Obj):=G5 P::HV P::yz P::Et P::Qx P::QL P::EH P::Q3 P::QF P::RF P::RA P::RI P::r
noncomputable def aar(P:Params)(r:List (Obj)):List (Obj):=Qm P::EI P::QX P::GA P::EM P::RS P::Fj P::Ef P::D6 P::Hw P::ER P::RV P::r
noncomputable def abX(P:Params)(r:List (Obj)):List (Obj):=RD P::Ew P::RK P::QB P::Ru P::RQ P::Q2 P::Q7 P::Gx P::QE P::Fz P::Hu P::r
noncomputable def aau(P:Params)(r:List (Obj)):List (Obj):=QT P::F_ P::Fq P::HU P::FX P::EG P::RP P::Rr P::Ht P::RG P::Rq P::RB P::r
noncomputable def acb(P:Params)(r:List (Obj)):List (Obj):=Rh P::RR P::Ry P::Ib P::QZ P::GC P::GO P::QN P::FC P::EB P::F5 P::HP P::r
noncomputable def aaQ(P:Params)(r:List (Obj)):List (Obj):=Ea P::QJ P::RC P::GK P::Nb P::Ko P::Lp P::K6 P::MB P::N1 P::zg P::Kn P::r
noncomputable def aaY(P:Params)(r:List (Obj)):List (Obj):=yX P::yU P::KU P::zz P::yT P::yK P::yN P::yY P::Nc P::N6 P::Ai P::Nq P::r
noncomputable def X7(P:Params)(r:List (Obj)):List (Obj):=Mt P::Me P::Mn P::MQ P::Np P::zr P::LX P::Av P::yL P::ML P::zf P::yl P::r
noncomputable def YE(P:Params)(r:List (Obj)):List (Obj):=z9 P::yj P::Au P::Lj P::Nm P::Aa P::LJ P::Ma P::N8 P::LA P::MJ P::Na P::r
noncomputable def ZY(P:Params)(r:List (Obj)):List (Obj):=zk P::Kg P::zU P::zi P::K8 P::yC P::zt P::zx P::Ap P::zq P::NI P::NG P::r
noncomputable def Wg(P:Params)(r:List (Obj)):List (Obj):=zl P::Nz P::KG P::MZ P::Lg P::KN P::KA P::Am P::Mm P::As P::ze P::MK P::r
noncomputable def YK(P:Params)(r:List (Obj)):List (Obj):=An P::zH P::zL P::yf P::yZ P::Lx P::NL P::yi P::NN P::NM P::Lz P::Ll P::r
noncomputable def Zu(P:Params)(r:List (Obj)):List (Obj):=LY P::ME P::zW P::Mh P::zS P::yI P::Kk P::Af P::yP P::yM P::yG P::yR P::r
noncomputable def YO(P:Params)(r:List (Obj)):List (Obj):=LC P::M4 P::qw P::FK P::Iq P::HG P::Fi P::ED P::Fg P::pK P::Ee P::uJ P::r
noncomputable def Za(P:Params)(r:List (Obj)):List (Obj):=uK P::He P::rR P::tZ P::qN P::sJ P::qj P::Ii P::FE P::tE P::FL P::HL P::r
noncomputable def XD(P:Params)(r:List (Obj)):List (Obj):=HJ P::FU P::Gg P::Fp P::pB P::Gi P::oo P::so P::Ge P::sR P::pX P::sj P::r
noncomputable def XF(P:Params)(r:List (Obj)):List (Obj):=tL P::sL P::Hb P::EY P::ow P::Hj P::FI P::F2 P::Ej P::HI P::Fb P::pW P::r
noncomputable def Wv(P:Params)(r:List (Obj)):List (Obj):=HC P::tU P::o9 P::FZ P::oO P::nQ P::tm P::rH P::qL P::Fw P::Hq P::uq P::r
noncomputable def Zl(P:Params)(r:List (Obj)):List (Obj):=Gu P::Gk P::GJ P::Ga P::FJ P::G9 P::nR P::HA P::pD P::pO P::Ft P::uu P::r
noncomputable def Y9(P:Params)(r:List (Obj)):List (Obj):=qm P::tO P::uR P::nY P::GS P::HM P::nS P::HW P::EN P::GY P::FO P::GZ P::r
noncomputable def X6(P:Params)(r:List (Obj)):List (Obj):=E2 P::qA P::HY P::pV P::pC P::GF P::rg P::uc P::rO P::ox P::rF P::Ir P::r
noncomputable def aae(P:Params)(r:List (Obj)):List (Obj):=G4 P::q_ P::Gs P::GX P::Fs P::GH P::Eu P::Fc P::oq P::Hl P::tF P::oy P::r
noncomputable def YR(P:Params)(r:List (Obj)):List (Obj):=Eg P::uL P::uN P::uw P::sG P::oh P::Hh P::D_ P::tR P::p_ P::qS P::tW P::r
noncomputable def WC(P:Params)(r:List (Obj)):List (Obj):=tj P::qF P::pA P::uh P::sN P::qk P::n8 P::rV P::rQ P::ub P::pb P::tS P::r
noncomputable def W3(P:Params)(r:List (Obj)):List (Obj):=pk P::oN P::EO P::ql P::qI P::sd P::GI P::rT P::qc P::FD P::oG P::oP P::r
noncomputable def Ys(P:Params)(r:List (Obj)):List (Obj):=uP P::F6 P::Gz P::se P::si P::sU P::Eh P::uo P::qY P::Fe P::sC P::pL P::r
noncomputable def WK(P:Params)(r:List (Obj)):List (Obj):=og P::ES P::Hr P::nZ P::qV P::oM P::FH P::Fn P::oz P::t_ P::oR P::GN P::r
noncomputable def XC(P:Params)(r:List (Obj)):List (Obj):=rY P::uy P::GR P::ur P::r_ P::uT P::GB P::n9 P::tK P::Fd P::oJ P::s_ P::r
noncomputable def ZE(P:Params)(r:List (Obj)):List (Obj):=sV P::GQ P::sg P::ou P::FA P::uk P::oY P::pd P::Im P::tP P::tY P::FY P::r
noncomputable def YF(P:Params)(r:List (Obj)):List (Obj):=qJ P::oZ P::pP P::Ia P::pf P::sQ P::Gq P::sr P::tM P::o_ P::Hz P::rX P::r
noncomputable def WQ(P:Params)(r:List (Obj)):List (Obj):=uU P::Ey P::uF P::pN P::n_ P::Hd P::Ie P::nX P::qW P::uS P::Fo P::sO P::r
noncomputable def YV(P:Params)(r:List (Obj)):List (Obj):=pe P::Ih P::sP P::oI P::sE P::D4 P::qD P::rZ P::E9 P::sW P::nN P::om P::r
noncomputable def Yr(P:Params)(r:List (Obj)):List (Obj):=tD P::n0 P::oX P::oW P::pQ P::pI P::tV P::oE P::nW P::uv P::qP P::oD P::r
noncomputable def Wx(P:Params)(r:List (Obj)):List (Obj):=F4 P::oQ P::uO P::Ei P::pU P::sk P::tQ P::E5 P::nV P::qG P::DW P::rK P::r
noncomputable def WY(P:Params)(r:List (Obj)):List (Obj):=tN P::oV P::GU P::um P::uf P::Il P::o8 P::qU P::pz P::Ij P::oC P::qi P::r
noncomputable def Y8(P:Params)(r:List (Obj)):List (Obj):=F9 P::tH P::sT P::pG P::HR P::qX P::sS P::Gw P::n6 P::qH P::oS P::EA P::r
noncomputable def ZC(P:Params)(r:List (Obj)):List (Obj):=qx P::sY P::Hs P::tq P::rD P::tJ P::DT P::qB P::uB P::G2 P::pJ P::oU P::r
noncomputable def aab(P:Params)(r:List (Obj)):List (Obj):=qv P::HX P::qT P::uQ P::FF P::ph P::nP P::oK P::HF P::qR P::sF P::EU P::r
noncomputable def aaj(P:Params)(r:List (Obj)):List (Obj):=sM P::pZ P::uA P::HN P::oj P::oH P::Eb P::qE P::uI P::pR P::GW P::uG P::r
noncomputable def We(P:Params)(r:List (Obj)):List (Obj):=uM P::FW P::qh P::oB P::rM P::Hy P::oF P::pT P::Fm P::pF P::pM P::tX P::r
noncomputable def WH(P:Params)(r:List (Obj)):List (Obj):=EC P::ue P::qZ P::ET P::tw P::qC P::uz P::E1 P::qr P::oA P::EK P::tI P::r
noncomputable def aak(P:Params)(r:List (Obj)):List (Obj):=sI P::ua P::Gm P::qo P::uE P::EW P::sm P::sZ P::rG P::Fv P::FV P::qM P::r
noncomputable def Zc(P:Params)(r:List (Obj)):List (Obj):=qp P::sD P::Gh P::qO P::nU P::DS P::ux P::rC P::rW P::FP P::rE P::uC P::r
noncomputable def X0(P:Params)(r:List (Obj)):List (Obj):=Hg P::pY P::ud P::o7 P::Ec P::rN P::rL P::F7 P::tu P::su P::r
noncomputable def Hf(P:Params):Heap:=⟨Array.mk (aaR P (aba P (abo P (abm P (aar P (abX P (aau P (acb P (aaQ P (aaY P (X7 P (YE P (ZY P (Wg P (YK P (Zu P (YO P (Za P (XD P (XF P (Wv P (Zl P (Y9 P (X6 P (aae P (YR P (WC P (W3 P (Ys P (WK P (XC P (ZE P (YF P (WQ P (YV P (Yr P (Wx P (WY P (Y8 P (ZC P (aab P (aaj P (We P (WH P (aak P (Zc P (X0 P []))))))))))))))))))))))))))))))))))))))))))))))),⟨[],[],[],0,[],[],false,#[],[],0,false,false,false,(.ofNat 0),[(.ofNat 2000),(.ofNat 10),(.ofNat 10)],false,0,true,[],[],0,false⟩⟩
noncomputable def df:Drawn:=⟨0,0,0,0⟩
noncomputable def kf:Nat:=nat_lit 990
noncomputable abbrev Sf:World->OsState->Shared:=HD.Zo Hf df kf
noncomputable def qz(w:World):(OsState->Option Shared)×(OsState->Option Shared):=(λos=>topRun treeTable pw w (nat_lit 11) (some (.ref 6)) (nat_lit 2) (V1 w os).abs (Thread.mk (doneF Flow.next) hC ⟨287,0,313,127⟩ hB),λos=>some (Sf w os))
theorem Y_:HD.fin pw (nat_lit 11) (some (.ref 6)) (nat_lit 2) V1 Sf (Thread.mk (doneF Flow.next) hC ⟨287,0,313,127⟩ hB)=qz:=by kernel_rfl
name_quick Qo for qz by Y_
theorem iz(w:World):(Fast.Qo w).1=(Fast.Qo w).2:=by kernel_rfl
theorem hz:HD.Ok (HD.fin pw (nat_lit 11) (some (.ref 6)) (nat_lit 2) V1 Sf (Thread.mk (doneF Flow.next) hC ⟨287,0,313,127⟩ hB)):=HD.gc Fast.Qo_eq iz
theorem Ay:behindTheImports pw=(g1++(g2++(g3++(g4++(g5++(g6++(g7++(g8++(g9++(Vy++(VO++(VL++(VF++(g14++(g15++(VY++(V5++(VR++(g19++(g20++([]:List Stmt))))))))))))))))))))):=by kernel_rfl
theorem Pc:HD.Goes pw (nat_lit 11) (some (.ref 6)) Sf (nat_lit 12+(nat_lit 1+(nat_lit 255+(nat_lit 244+(nat_lit 244+(nat_lit 244+(nat_lit 244+(nat_lit 244+(nat_lit 244+(nat_lit 244+(nat_lit 244+(nat_lit 244+(nat_lit 244+(nat_lit 244+(nat_lit 244+(nat_lit 244+(nat_lit 280+(nat_lit 340+(nat_lit 386+(nat_lit 391+(nat_lit 393+(nat_lit 119+(nat_lit 2))))))))))))))))))))))) S0 (topStub pw):=HD.Z_ ha (HD.W_ Ay hb (HD.dC h1 (HD.dC h2 (HD.dC h3 (HD.dC h4 (HD.dC h5 (HD.dC h6 (HD.dC h7 (HD.dC h8 (HD.dC h9 (HD.dC h10 (HD.dC h11 (HD.dC h12 (HD.dC h13 (HD.dC h14 (HD.dC h15 (HD.dC h16 (HD.dC h17 (HD.dC h18 (HD.dC h19 (HD.dC h20 (HD.Xv (env:=hE) hz))))))))))))))))))))))
noncomputable def hq:Program:=HD.view pw [ht 0,ht 2,ht 3,ht 4,ht 5,ht 6,ht 7,ht 8,ht 9,ht 10,ht 11,ht 12,ht 13,ht 14,ht 15,ht 16,ht 18,ht 19,ht 20,ht 21,ht 22,ht 23,ht 24,ht 25,ht 26,ht 27,ht 28,ht 29,ht 31,ht 32,ht 33,ht 34,ht 36,ht 37,ht 38,ht 40,ht 41,ht 42,ht 43,ht 44,ht 45,ht 47,ht 48,ht 50,ht 51,ht 52,ht 53,ht 54,ht 55,ht 56,ht 57,ht 58,ht 59,ht 60,ht 61]
noncomputable def hl:List Str:=[PySem.Str.ofString "KIDS_DUE",PySem.Str.ofString "BINDER_OVER",PySem.Str.ofString "RULES"]
noncomputable def abE(P:Params)(r:List (Addr×Obj)):List (Addr×Obj):=(nat_lit 2,PySem.W.boot_o_2 P)::(nat_lit 3,EZ P)::(nat_lit 15,El P)::(nat_lit 17,HQ P)::(nat_lit 18,GL P)::(nat_lit 20,Ff P)::(nat_lit 21,Ip P)::(nat_lit 22,HK P)::(nat_lit 29,DV P)::(nat_lit 31,FT P)::(nat_lit 32,FQ P)::(nat_lit 34,FN P)::r
noncomputable def ach(P:Params)(r:List (Addr×Obj)):List (Addr×Obj):=(nat_lit 35,En P)::(nat_lit 36,G5 P)::(nat_lit 37,HV P)::(nat_lit 38,yz P)::(nat_lit 39,Et P)::(nat_lit 42,EH P)::(nat_lit 49,EI P)::(nat_lit 51,GA P)::(nat_lit 52,EM P)::(nat_lit 54,Fj P)::(nat_lit 55,Ef P)::(nat_lit 56,D6 P)::r
noncomputable def aa1(P:Params)(r:List (Addr×Obj)):List (Addr×Obj):=(nat_lit 57,Hw P)::(nat_lit 58,ER P)::(nat_lit 61,Ew P)::(nat_lit 68,Gx P)::(nat_lit 70,Fz P)::(nat_lit 71,Hu P)::(nat_lit 73,F_ P)::(nat_lit 74,Fq P)::(nat_lit 75,HU P)::(nat_lit 76,FX P)::(nat_lit 77,EG P)::(nat_lit 80,Ht P)::r
noncomputable def abd(P:Params)(r:List (Addr×Obj)):List (Addr×Obj):=(nat_lit 87,Ib P)::(nat_lit 89,GC P)::(nat_lit 90,GO P)::(nat_lit 92,FC P)::(nat_lit 93,EB P)::(nat_lit 94,F5 P)::(nat_lit 95,HP P)::(nat_lit 96,Ea P)::(nat_lit 99,GK P)::(nat_lit 106,zg P)::(nat_lit 108,yX P)::(nat_lit 109,yU P)::r
noncomputable def abe(P:Params)(r:List (Addr×Obj)):List (Addr×Obj):=(nat_lit 111,zz P)::(nat_lit 112,yT P)::(nat_lit 113,yK P)::(nat_lit 114,yN P)::(nat_lit 115,yY P)::(nat_lit 118,Ai P)::(nat_lit 125,zr P)::(nat_lit 127,Av P)::(nat_lit 128,yL P)::(nat_lit 130,zf P)::(nat_lit 131,yl P)::(nat_lit 132,z9 P)::r
noncomputable def abN(P:Params)(r:List (Addr×Obj)):List (Addr×Obj):=(nat_lit 133,yj P)::(nat_lit 134,Au P)::(nat_lit 137,Aa P)::(nat_lit 144,zk P)::(nat_lit 146,zU P)::(nat_lit 147,zi P)::(nat_lit 149,yC P)::(nat_lit 150,zt P)::(nat_lit 151,zx P)::(nat_lit 152,Ap P)::(nat_lit 153,zq P)::(nat_lit 156,zl P)::r
noncomputable def aal(P:Params)(r:List (Addr×Obj)):List (Addr×Obj):=(nat_lit 163,Am P)::(nat_lit 165,As P)::(nat_lit 166,ze P)::(nat_lit 168,An P)::(nat_lit 169,zH P)::(nat_lit 170,zL P)::(nat_lit 171,yf P)::(nat_lit 172,yZ P)::(nat_lit 175,yi P)::(nat_lit 182,zW P)::(nat_lit 184,zS P)::(nat_lit 185,yI P)::r
noncomputable def aat(P:Params)(r:List (Addr×Obj)):List (Addr×Obj):=(nat_lit 187,Af P)::(nat_lit 188,yP P)::(nat_lit 189,yM P)::(nat_lit 190,yG P)::(nat_lit 191,yR P)::(nat_lit 194,qw P)::(nat_lit 201,pK P)::(nat_lit 203,uJ P)::(nat_lit 204,uK P)::(nat_lit 206,rR P)::(nat_lit 207,tZ P)::(nat_lit 208,qN P)::r
noncomputable def abP(P:Params)(r:List (Addr×Obj)):List (Addr×Obj):=(nat_lit 209,sJ P)::(nat_lit 210,qj P)::(nat_lit 213,tE P)::(nat_lit 220,pB P)::(nat_lit 222,oo P)::(nat_lit 223,so P)::(nat_lit 225,sR P)::(nat_lit 226,pX P)::(nat_lit 227,sj P)::(nat_lit 228,tL P)::(nat_lit 229,sL P)::(nat_lit 232,ow P)::r
noncomputable def ace(P:Params)(r:List (Addr×Obj)):List (Addr×Obj):=(nat_lit 239,pW P)::(nat_lit 241,tU P)::(nat_lit 242,o9 P)::(nat_lit 244,oO P)::(nat_lit 245,nQ P)::(nat_lit 246,tm P)::(nat_lit 247,rH P)::(nat_lit 248,qL P)::(nat_lit 251,uq P)::(nat_lit 258,nR P)::(nat_lit 260,pD P)::(nat_lit 261,pO P)::r
noncomputable def Yh(P:Params)(r:List (Addr×Obj)):List (Addr×Obj):=(nat_lit 263,uu P)::(nat_lit 264,qm P)::(nat_lit 265,tO P)::(nat_lit 266,uR P)::(nat_lit 267,nY P)::(nat_lit 270,nS P)::(nat_lit 277,qA P)::(nat_lit 279,pV P)::(nat_lit 280,pC P)::(nat_lit 282,rg P)::(nat_lit 283,uc P)::(nat_lit 284,rO P)::r
noncomputable def Z1(P:Params)(r:List (Addr×Obj)):List (Addr×Obj):=(nat_lit 285,ox P)::(nat_lit 286,rF P)::(nat_lit 289,q_ P)::(nat_lit 296,oq P)::(nat_lit 298,tF P)::(nat_lit 299,oy P)::(nat_lit 301,uL P)::(nat_lit 302,uN P)::(nat_lit 303,uw P)::(nat_lit 304,sG P)::(nat_lit 305,oh P)::(nat_lit 308,tR P)::r
noncomputable def YM(P:Params)(r:List (Addr×Obj)):List (Addr×Obj):=(nat_lit 309,p_ P)::(nat_lit 310,qS P)::(nat_lit 311,tW P)::(nat_lit 312,tj P)::(nat_lit 313,qF P)::(nat_lit 314,pA P)::(nat_lit 315,uh P)::(nat_lit 316,sN P)::(nat_lit 317,qk P)::(nat_lit 318,n8 P)::(nat_lit 319,rV P)::(nat_lit 320,rQ P)::r
noncomputable def WD(P:Params)(r:List (Addr×Obj)):List (Addr×Obj):=(nat_lit 321,ub P)::(nat_lit 322,pb P)::(nat_lit 323,tS P)::(nat_lit 324,pk P)::(nat_lit 325,oN P)::(nat_lit 327,ql P)::(nat_lit 328,qI P)::(nat_lit 329,sd P)::(nat_lit 331,rT P)::(nat_lit 332,qc P)::(nat_lit 334,oG P)::(nat_lit 335,oP P)::r
noncomputable def Z6(P:Params)(r:List (Addr×Obj)):List (Addr×Obj):=(nat_lit 336,uP P)::(nat_lit 339,se P)::(nat_lit 340,si P)::(nat_lit 341,sU P)::(nat_lit 343,uo P)::(nat_lit 344,qY P)::(nat_lit 346,sC P)::(nat_lit 347,pL P)::(nat_lit 348,og P)::(nat_lit 351,nZ P)::(nat_lit 352,qV P)::(nat_lit 353,oM P)::r
noncomputable def Ws(P:Params)(r:List (Addr×Obj)):List (Addr×Obj):=(nat_lit 356,oz P)::(nat_lit 357,t_ P)::(nat_lit 358,oR P)::(nat_lit 360,rY P)::(nat_lit 361,uy P)::(nat_lit 363,ur P)::(nat_lit 364,r_ P)::(nat_lit 365,uT P)::(nat_lit 367,n9 P)::(nat_lit 368,tK P)::(nat_lit 370,oJ P)::(nat_lit 371,s_ P)::r
noncomputable def Yc(P:Params)(r:List (Addr×Obj)):List (Addr×Obj):=(nat_lit 372,sV P)::(nat_lit 374,sg P)::(nat_lit 375,ou P)::(nat_lit 377,uk P)::(nat_lit 378,oY P)::(nat_lit 379,pd P)::(nat_lit 381,tP P)::(nat_lit 382,tY P)::(nat_lit 384,qJ P)::(nat_lit 385,oZ P)::(nat_lit 386,pP P)::(nat_lit 388,pf P)::r
noncomputable def Wk(P:Params)(r:List (Addr×Obj)):List (Addr×Obj):=(nat_lit 389,sQ P)::(nat_lit 391,sr P)::(nat_lit 392,tM P)::(nat_lit 393,o_ P)::(nat_lit 395,rX P)::(nat_lit 396,uU P)::(nat_lit 398,uF P)::(nat_lit 399,pN P)::(nat_lit 400,n_ P)::(nat_lit 403,nX P)::(nat_lit 404,qW P)::(nat_lit 405,uS P)::r
noncomputable def Xu(P:Params)(r:List (Addr×Obj)):List (Addr×Obj):=(nat_lit 407,sO P)::(nat_lit 408,pe P)::(nat_lit 410,sP P)::(nat_lit 411,oI P)::(nat_lit 412,sE P)::(nat_lit 414,qD P)::(nat_lit 415,rZ P)::(nat_lit 417,sW P)::(nat_lit 418,nN P)::(nat_lit 419,om P)::(nat_lit 420,tD P)::(nat_lit 421,n0 P)::r
noncomputable def Zk(P:Params)(r:List (Addr×Obj)):List (Addr×Obj):=(nat_lit 422,oX P)::(nat_lit 423,oW P)::(nat_lit 424,pQ P)::(nat_lit 425,pI P)::(nat_lit 426,tV P)::(nat_lit 427,oE P)::(nat_lit 428,nW P)::(nat_lit 429,uv P)::(nat_lit 430,qP P)::(nat_lit 431,oD P)::(nat_lit 433,oQ P)::(nat_lit 434,uO P)::r
noncomputable def Wr(P:Params)(r:List (Addr×Obj)):List (Addr×Obj):=(nat_lit 436,pU P)::(nat_lit 437,sk P)::(nat_lit 438,tQ P)::(nat_lit 440,nV P)::(nat_lit 441,qG P)::(nat_lit 443,rK P)::(nat_lit 444,tN P)::(nat_lit 445,oV P)::(nat_lit 447,um P)::(nat_lit 448,uf P)::(nat_lit 450,o8 P)::(nat_lit 451,qU P)::r
noncomputable def ZA(P:Params)(r:List (Addr×Obj)):List (Addr×Obj):=(nat_lit 452,pz P)::(nat_lit 454,oC P)::(nat_lit 455,qi P)::(nat_lit 457,tH P)::(nat_lit 458,sT P)::(nat_lit 459,pG P)::(nat_lit 461,qX P)::(nat_lit 462,sS P)::(nat_lit 464,n6 P)::(nat_lit 465,qH P)::(nat_lit 466,oS P)::(nat_lit 468,qx P)::r
noncomputable def W4(P:Params)(r:List (Addr×Obj)):List (Addr×Obj):=(nat_lit 469,sY P)::(nat_lit 471,tq P)::(nat_lit 472,rD P)::(nat_lit 473,tJ P)::(nat_lit 475,qB P)::(nat_lit 476,uB P)::(nat_lit 478,pJ P)::(nat_lit 479,oU P)::(nat_lit 480,qv P)::(nat_lit 482,qT P)::(nat_lit 483,uQ P)::(nat_lit 485,ph P)::r
noncomputable def WG(P:Params)(r:List (Addr×Obj)):List (Addr×Obj):=(nat_lit 486,nP P)::(nat_lit 487,oK P)::(nat_lit 489,qR P)::(nat_lit 490,sF P)::(nat_lit 492,sM P)::(nat_lit 493,pZ P)::(nat_lit 494,uA P)::(nat_lit 496,oj P)::(nat_lit 497,oH P)::(nat_lit 499,qE P)::(nat_lit 500,uI P)::(nat_lit 501,pR P)::r
noncomputable def XM(P:Params)(r:List (Addr×Obj)):List (Addr×Obj):=(nat_lit 503,uG P)::(nat_lit 504,uM P)::(nat_lit 506,qh P)::(nat_lit 507,oB P)::(nat_lit 508,rM P)::(nat_lit 510,oF P)::(nat_lit 511,pT P)::(nat_lit 513,pF P)::(nat_lit 514,pM P)::(nat_lit 515,tX P)::(nat_lit 517,ue P)::(nat_lit 518,qZ P)::r
noncomputable def ZZ(P:Params)(r:List (Addr×Obj)):List (Addr×Obj):=(nat_lit 520,tw P)::(nat_lit 521,qC P)::(nat_lit 522,uz P)::(nat_lit 524,qr P)::(nat_lit 525,oA P)::(nat_lit 527,tI P)::(nat_lit 528,sI P)::(nat_lit 529,ua P)::(nat_lit 531,qo P)::(nat_lit 532,uE P)::(nat_lit 534,sm P)::(nat_lit 535,sZ P)::r
noncomputable def Xl(P:Params)(r:List (Addr×Obj)):List (Addr×Obj):=(nat_lit 536,rG P)::(nat_lit 539,qM P)::(nat_lit 540,qp P)::(nat_lit 541,sD P)::(nat_lit 543,qO P)::(nat_lit 544,nU P)::(nat_lit 546,ux P)::(nat_lit 547,rC P)::(nat_lit 548,rW P)::(nat_lit 550,rE P)::(nat_lit 551,uC P)::(nat_lit 553,pY P)::r
noncomputable def WO(P:Params)(r:List (Addr×Obj)):List (Addr×Obj):=(nat_lit 554,ud P)::(nat_lit 555,o7 P)::(nat_lit 557,rN P)::(nat_lit 558,rL P)::(nat_lit 560,tu P)::(nat_lit 561,su P)::r
noncomputable def hK0(P:Params):List (Addr×Obj):=(abE P (ach P (aa1 P (abd P (abe P (abN P (aal P (aat P (abP P (ace P (Yh P (Z1 P (YM P (WD P (Z6 P (Ws P (Yc P (Wk P (Xu P (Zk P (Wr P (ZA P (W4 P (WG P (XM P (ZZ P (Xl P (WO P []))))))))))))))))))))))))))))
noncomputable def hK(P:Params):Frag:=(nat_lit 2,PySem.W.boot_o_2 P)::(nat_lit 3,EZ P)::(nat_lit 15,El P)::(nat_lit 17,HQ P)::(nat_lit 18,GL P)::(nat_lit 20,Ff P)::(nat_lit 21,Ip P)::(nat_lit 22,HK P)::(nat_lit 29,DV P)::(nat_lit 31,FT P)::(nat_lit 32,FQ P)::(nat_lit 34,FN P)::(nat_lit 35,En P)::(nat_lit 36,G5 P)::(nat_lit 37,HV P)::(nat_lit 38,yz P)::(nat_lit 39,Et P)::(nat_lit 42,EH P)::(nat_lit 49,EI P)::(nat_lit 51,GA P)::(nat_lit 52,EM P)::(nat_lit 54,Fj P)::(nat_lit 55,Ef P)::(nat_lit 56,D6 P)::(nat_lit 57,Hw P)::(nat_lit 58,ER P)::(nat_lit 61,Ew P)::(nat_lit 68,Gx P)::(nat_lit 70,Fz P)::(nat_lit 71,Hu P)::(nat_lit 73,F_ P)::(nat_lit 74,Fq P)::(nat_lit 75,HU P)::(nat_lit 76,FX P)::(nat_lit 77,EG P)::(nat_lit 80,Ht P)::(nat_lit 87,Ib P)::(nat_lit 89,GC P)::(nat_lit 90,GO P)::(nat_lit 92,FC P)::(nat_lit 93,EB P)::(nat_lit 94,F5 P)::(nat_lit 95,HP P)::(nat_lit 96,Ea P)::(nat_lit 99,GK P)::(nat_lit 106,zg P)::(nat_lit 108,yX P)::(nat_lit 109,yU P)::(nat_lit 111,zz P)::(nat_lit 112,yT P)::(nat_lit 113,yK P)::(nat_lit 114,yN P)::(nat_lit 115,yY P)::(nat_lit 118,Ai P)::(nat_lit 125,zr P)::(nat_lit 127,Av P)::(nat_lit 128,yL P)::(nat_lit 130,zf P)::(nat_lit 131,yl P)::(nat_lit 132,z9 P)::(nat_lit 133,yj P)::(nat_lit 134,Au P)::(nat_lit 137,Aa P)::(nat_lit 144,zk P)::(nat_lit 146,zU P)::(nat_lit 147,zi P)::(nat_lit 149,yC P)::(nat_lit 150,zt P)::(nat_lit 151,zx P)::(nat_lit 152,Ap P)::(nat_lit 153,zq P)::(nat_lit 156,zl P)::(nat_lit 163,Am P)::(nat_lit 165,As P)::(nat_lit 166,ze P)::(nat_lit 168,An P)::(nat_lit 169,zH P)::(nat_lit 170,zL P)::(nat_lit 171,yf P)::(nat_lit 172,yZ P)::(nat_lit 175,yi P)::(nat_lit 182,zW P)::(nat_lit 184,zS P)::(nat_lit 185,yI P)::(nat_lit 187,Af P)::(nat_lit 188,yP P)::(nat_lit 189,yM P)::(nat_lit 190,yG P)::(nat_lit 191,yR P)::(nat_lit 194,qw P)::(nat_lit 201,pK P)::(nat_lit 203,uJ P)::(nat_lit 204,uK P)::(nat_lit 206,rR P)::(nat_lit 207,tZ P)::(nat_lit 208,qN P)::(nat_lit 209,sJ P)::(nat_lit 210,qj P)::(nat_lit 213,tE P)::(nat_lit 220,pB P)::(nat_lit 222,oo P)::(nat_lit 223,so P)::(nat_lit 225,sR P)::(nat_lit 226,pX P)::(nat_lit 227,sj P)::(nat_lit 228,tL P)::(nat_lit 229,sL P)::(nat_lit 232,ow P)::(nat_lit 239,pW P)::(nat_lit 241,tU P)::(nat_lit 242,o9 P)::(nat_lit 244,oO P)::(nat_lit 245,nQ P)::(nat_lit 246,tm P)::(nat_lit 247,rH P)::(nat_lit 248,qL P)::(nat_lit 251,uq P)::(nat_lit 258,nR P)::(nat_lit 260,pD P)::(nat_lit 261,pO P)::(nat_lit 263,uu P)::(nat_lit 264,qm P)::(nat_lit 265,tO P)::(nat_lit 266,uR P)::(nat_lit 267,nY P)::(nat_lit 270,nS P)::(nat_lit 277,qA P)::(nat_lit 279,pV P)::(nat_lit 280,pC P)::(nat_lit 282,rg P)::(nat_lit 283,uc P)::(nat_lit 284,rO P)::(nat_lit 285,ox P)::(nat_lit 286,rF P)::(nat_lit 289,q_ P)::(nat_lit 296,oq P)::(nat_lit 298,tF P)::(nat_lit 299,oy P)::(nat_lit 301,uL P)::(nat_lit 302,uN P)::(nat_lit 303,uw P)::(nat_lit 304,sG P)::(nat_lit 305,oh P)::(nat_lit 308,tR P)::(nat_lit 309,p_ P)::(nat_lit 310,qS P)::(nat_lit 311,tW P)::(nat_lit 312,tj P)::(nat_lit 313,qF P)::(nat_lit 314,pA P)::(nat_lit 315,uh P)::(nat_lit 316,sN P)::(nat_lit 317,qk P)::(nat_lit 318,n8 P)::(nat_lit 319,rV P)::(nat_lit 320,rQ P)::(nat_lit 321,ub P)::(nat_lit 322,pb P)::(nat_lit 323,tS P)::(nat_lit 324,pk P)::(nat_lit 325,oN P)::(nat_lit 327,ql P)::(nat_lit 328,qI P)::(nat_lit 329,sd P)::(nat_lit 331,rT P)::(nat_lit 332,qc P)::(nat_lit 334,oG P)::(nat_lit 335,oP P)::(nat_lit 336,uP P)::(nat_lit 339,se P)::(nat_lit 340,si P)::(nat_lit 341,sU P)::(nat_lit 343,uo P)::(nat_lit 344,qY P)::(nat_lit 346,sC P)::(nat_lit 347,pL P)::(nat_lit 348,og P)::(nat_lit 351,nZ P)::(nat_lit 352,qV P)::(nat_lit 353,oM P)::(nat_lit 356,oz P)::(nat_lit 357,t_ P)::(nat_lit 358,oR P)::(nat_lit 360,rY P)::(nat_lit 361,uy P)::(nat_lit 363,ur P)::(nat_lit 364,r_ P)::(nat_lit 365,uT P)::(nat_lit 367,n9 P)::(nat_lit 368,tK P)::(nat_lit 370,oJ P)::(nat_lit 371,s_ P)::(nat_lit 372,sV P)::(nat_lit 374,sg P)::(nat_lit 375,ou P)::(nat_lit 377,uk P)::(nat_lit 378,oY P)::(nat_lit 379,pd P)::(nat_lit 381,tP P)::(nat_lit 382,tY P)::(nat_lit 384,qJ P)::(nat_lit 385,oZ P)::(nat_lit 386,pP P)::(nat_lit 388,pf P)::(nat_lit 389,sQ P)::(nat_lit 391,sr P)::(nat_lit 392,tM P)::(nat_lit 393,o_ P)::(nat_lit 395,rX P)::(nat_lit 396,uU P)::(nat_lit 398,uF P)::(nat_lit 399,pN P)::(nat_lit 400,n_ P)::(nat_lit 403,nX P)::(nat_lit 404,qW P)::(nat_lit 405,uS P)::(nat_lit 407,sO P)::(nat_lit 408,pe P)::(nat_lit 410,sP P)::(nat_lit 411,oI P)::(nat_lit 412,sE P)::(nat_lit 414,qD P)::(nat_lit 415,rZ P)::(nat_lit 417,sW P)::(nat_lit 418,nN P)::(nat_lit 419,om P)::(nat_lit 420,tD P)::(nat_lit 421,n0 P)::(nat_lit 422,oX P)::(nat_lit 423,oW P)::(nat_lit 424,pQ P)::(nat_lit 425,pI P)::(nat_lit 426,tV P)::(nat_lit 427,oE P)::(nat_lit 428,nW P)::(nat_lit 429,uv P)::(nat_lit 430,qP P)::(nat_lit 431,oD P)::(nat_lit 433,oQ P)::(nat_lit 434,uO P)::(nat_lit 436,pU P)::(nat_lit 437,sk P)::(nat_lit 438,tQ P)::(nat_lit 440,nV P)::(nat_lit 441,qG P)::(nat_lit 443,rK P)::(nat_lit 444,tN P)::(nat_lit 445,oV P)::(nat_lit 447,um P)::(nat_lit 448,uf P)::(nat_lit 450,o8 P)::(nat_lit 451,qU P)::(nat_lit 452,pz P)::(nat_lit 454,oC P)::(nat_lit 455,qi P)::(nat_lit 457,tH P)::(nat_lit 458,sT P)::(nat_lit 459,pG P)::(nat_lit 461,qX P)::(nat_lit 462,sS P)::(nat_lit 464,n6 P)::(nat_lit 465,qH P)::(nat_lit 466,oS P)::(nat_lit 468,qx P)::(nat_lit 469,sY P)::(nat_lit 471,tq P)::(nat_lit 472,rD P)::(nat_lit 473,tJ P)::(nat_lit 475,qB P)::(nat_lit 476,uB P)::(nat_lit 478,pJ P)::(nat_lit 479,oU P)::(nat_lit 480,qv P)::(nat_lit 482,qT P)::(nat_lit 483,uQ P)::(nat_lit 485,ph P)::(nat_lit 486,nP P)::(nat_lit 487,oK P)::(nat_lit 489,qR P)::(nat_lit 490,sF P)::(nat_lit 492,sM P)::(nat_lit 493,pZ P)::(nat_lit 494,uA P)::(nat_lit 496,oj P)::(nat_lit 497,oH P)::(nat_lit 499,qE P)::(nat_lit 500,uI P)::(nat_lit 501,pR P)::(nat_lit 503,uG P)::(nat_lit 504,uM P)::(nat_lit 506,qh P)::(nat_lit 507,oB P)::(nat_lit 508,rM P)::(nat_lit 510,oF P)::(nat_lit 511,pT P)::(nat_lit 513,pF P)::(nat_lit 514,pM P)::(nat_lit 515,tX P)::(nat_lit 517,ue P)::(nat_lit 518,qZ P)::(nat_lit 520,tw P)::(nat_lit 521,qC P)::(nat_lit 522,uz P)::(nat_lit 524,qr P)::(nat_lit 525,oA P)::(nat_lit 527,tI P)::(nat_lit 528,sI P)::(nat_lit 529,ua P)::(nat_lit 531,qo P)::(nat_lit 532,uE P)::(nat_lit 534,sm P)::(nat_lit 535,sZ P)::(nat_lit 536,rG P)::(nat_lit 539,qM P)::(nat_lit 540,qp P)::(nat_lit 541,sD P)::(nat_lit 543,qO P)::(nat_lit 544,nU P)::(nat_lit 546,ux P)::(nat_lit 547,rC P)::(nat_lit 548,rW P)::(nat_lit 550,rE P)::(nat_lit 551,uC P)::(nat_lit 553,pY P)::(nat_lit 554,ud P)::(nat_lit 555,o7 P)::(nat_lit 557,rN P)::(nat_lit 558,rL P)::(nat_lit 560,tu P)::(nat_lit 561,su P)::[]
noncomputable def hA:List Addr:=[nat_lit 2,nat_lit 3,nat_lit 15,nat_lit 17,nat_lit 18,nat_lit 20,nat_lit 21,nat_lit 22,nat_lit 29,nat_lit 31,nat_lit 32,nat_lit 34,nat_lit 35,nat_lit 36,nat_lit 37,nat_lit 38,nat_lit 39,nat_lit 42,nat_lit 49,nat_lit 51,nat_lit 52,nat_lit 54,nat_lit 55,nat_lit 56,nat_lit 57,nat_lit 58,nat_lit 61,nat_lit 68,nat_lit 70,nat_lit 71,nat_lit 73,nat_lit 74,nat_lit 75,nat_lit 76,nat_lit 77,nat_lit 80,nat_lit 87,nat_lit 89,nat_lit 90,nat_lit 92,nat_lit 93,nat_lit 94,nat_lit 95,nat_lit 96,nat_lit 99,nat_lit 106,nat_lit 108,nat_lit 109,nat_lit 111,nat_lit 112,nat_lit 113,nat_lit 114,nat_lit 115,nat_lit 118,nat_lit 125,nat_lit 127,nat_lit 128,nat_lit 130,nat_lit 131,nat_lit 132,nat_lit 133,nat_lit 134,nat_lit 137,nat_lit 144,nat_lit 146,nat_lit 147,nat_lit 149,nat_lit 150,nat_lit 151,nat_lit 152,nat_lit 153,nat_lit 156,nat_lit 163,nat_lit 165,nat_lit 166,nat_lit 168,nat_lit 169,nat_lit 170,nat_lit 171,nat_lit 172,nat_lit 175,nat_lit 182,nat_lit 184,nat_lit 185,nat_lit 187,nat_lit 188,nat_lit 189,nat_lit 190,nat_lit 191,nat_lit 194,nat_lit 201,nat_lit 203,nat_lit 204,nat_lit 206,nat_lit 207,nat_lit 208,nat_lit 209,nat_lit 210,nat_lit 213,nat_lit 220,nat_lit 222,nat_lit 223,nat_lit 225,nat_lit 226,nat_lit 227,nat_lit 228,nat_lit 229,nat_lit 232,nat_lit 239,nat_lit 241,nat_lit 242,nat_lit 244,nat_lit 245,nat_lit 246,nat_lit 247,nat_lit 248,nat_lit 251,nat_lit 258,nat_lit 260,nat_lit 261,nat_lit 263,nat_lit 264,nat_lit 265,nat_lit 266,nat_lit 267,nat_lit 270,nat_lit 277,nat_lit 279,nat_lit 280,nat_lit 282,nat_lit 283,nat_lit 284,nat_lit 285,nat_lit 286,nat_lit 289,nat_lit 296,nat_lit 298,nat_lit 299,nat_lit 301,nat_lit 302,nat_lit 303,nat_lit 304,nat_lit 305,nat_lit 308,nat_lit 309,nat_lit 310,nat_lit 311,nat_lit 312,nat_lit 313,nat_lit 314,nat_lit 315,nat_lit 316,nat_lit 317,nat_lit 318,nat_lit 319,nat_lit 320,nat_lit 321,nat_lit 322,nat_lit 323,nat_lit 324,nat_lit 325,nat_lit 327,nat_lit 328,nat_lit 329,nat_lit 331,nat_lit 332,nat_lit 334,nat_lit 335,nat_lit 336,nat_lit 339,nat_lit 340,nat_lit 341,nat_lit 343,nat_lit 344,nat_lit 346,nat_lit 347,nat_lit 348,nat_lit 351,nat_lit 352,nat_lit 353,nat_lit 356,nat_lit 357,nat_lit 358,nat_lit 360,nat_lit 361,nat_lit 363,nat_lit 364,nat_lit 365,nat_lit 367,nat_lit 368,nat_lit 370,nat_lit 371,nat_lit 372,nat_lit 374,nat_lit 375,nat_lit 377,nat_lit 378,nat_lit 379,nat_lit 381,nat_lit 382,nat_lit 384,nat_lit 385,nat_lit 386,nat_lit 388,nat_lit 389,nat_lit 391,nat_lit 392,nat_lit 393,nat_lit 395,nat_lit 396,nat_lit 398,nat_lit 399,nat_lit 400,nat_lit 403,nat_lit 404,nat_lit 405,nat_lit 407,nat_lit 408,nat_lit 410,nat_lit 411,nat_lit 412,nat_lit 414,nat_lit 415,nat_lit 417,nat_lit 418,nat_lit 419,nat_lit 420,nat_lit 421,nat_lit 422,nat_lit 423,nat_lit 424,nat_lit 425,nat_lit 426,nat_lit 427,nat_lit 428,nat_lit 429,nat_lit 430,nat_lit 431,nat_lit 433,nat_lit 434,nat_lit 436,nat_lit 437,nat_lit 438,nat_lit 440,nat_lit 441,nat_lit 443,nat_lit 444,nat_lit 445,nat_lit 447,nat_lit 448,nat_lit 450,nat_lit 451,nat_lit 452,nat_lit 454,nat_lit 455,nat_lit 457,nat_lit 458,nat_lit 459,nat_lit 461,nat_lit 462,nat_lit 464,nat_lit 465,nat_lit 466,nat_lit 468,nat_lit 469,nat_lit 471,nat_lit 472,nat_lit 473,nat_lit 475,nat_lit 476,nat_lit 478,nat_lit 479,nat_lit 480,nat_lit 482,nat_lit 483,nat_lit 485,nat_lit 486,nat_lit 487,nat_lit 489,nat_lit 490,nat_lit 492,nat_lit 493,nat_lit 494,nat_lit 496,nat_lit 497,nat_lit 499,nat_lit 500,nat_lit 501,nat_lit 503,nat_lit 504,nat_lit 506,nat_lit 507,nat_lit 508,nat_lit 510,nat_lit 511,nat_lit 513,nat_lit 514,nat_lit 515,nat_lit 517,nat_lit 518,nat_lit 520,nat_lit 521,nat_lit 522,nat_lit 524,nat_lit 525,nat_lit 527,nat_lit 528,nat_lit 529,nat_lit 531,nat_lit 532,nat_lit 534,nat_lit 535,nat_lit 536,nat_lit 539,nat_lit 540,nat_lit 541,nat_lit 543,nat_lit 544,nat_lit 546,nat_lit 547,nat_lit 548,nat_lit 550,nat_lit 551,nat_lit 553,nat_lit 554,nat_lit 555,nat_lit 557,nat_lit 558,nat_lit 560,nat_lit 561]
noncomputable def hX(s:Shared):Bool:=xlAt hq [] s&&recOk [] s
noncomputable def Uj:List Addr:=[nat_lit 406,nat_lit 413]
noncomputable abbrev hH:Hook:=kmHook hK hA (λ_=>by kernel_rfl) Uj
noncomputable def qs(w:World):(OsState->(Bool×Nat×Option Value))×(OsState->(Bool×Nat×Option Value)):=(λos=>((boot_heap w.params).isNs mainGlobals&&(Array.mk []:Array GenState).size==0,(boot_heap w.params).objs.size,(boot_heap w.params).nsMap mainGlobals "__annotations__"),λos=>(true,(nat_lit 11),(some (.ref 6))))
theorem Z5:HD.sz (nat_lit 11) (some (.ref 6))=qs:=by kernel_rfl
name_quick QK for qs by Z5
theorem is(w:World):(Fast.QK w).1=(Fast.QK w).2:=by kernel_rfl
theorem hs:HD.Ok (HD.sz (nat_lit 11) (some (.ref 6))):=HD.gc Fast.QK_eq is
noncomputable def qla(w:World):(OsState->Bool)×(OsState->Bool):=(λos=>(staticsOk (importedModules pw.main.body) (boot_heap w.params) (Hf w.params)&&namesBound pw (Hf w.params)&&gensDone (Sf w os)&&laidKept (boot_heap w.params) (Hf w.params)),λos=>true)
theorem UX:HD.la pw Hf df kf=qla:=by kernel_rfl
name_quick Ld for qla by UX
theorem ila(w:World):(Fast.Ld w).1=(Fast.Ld w).2:=by kernel_rfl
theorem hla:HD.Ok (HD.la pw Hf df kf):=HD.gc Fast.Ld_eq ila
noncomputable def qlb(w:World):=((λos:OsState=>openSeen hq hl (importedModules pw.main.body) hX true (Sf w os)),(λ_:OsState=>openGood hq hl))
theorem R9:HD.lb pw hq hl hX Hf df kf=qlb:=by kernel_rfl
name_quick NC for qlb by R9
theorem ilb(w:World):(Fast.NC w).1=(Fast.NC w).2:=by kernel_rfl
theorem hlb:HD.Ok (HD.lb pw hq hl hX Hf df kf):=HD.gc Fast.NC_eq ilb
noncomputable def qlc(w:World):(OsState->(List (Option Obj)×List (Option Obj)))×(OsState->(List (Option Obj)×List (Option Obj))):=(λos=>(hA.map (Sf w os).heap.get?,Uj.map (Sf w os).heap.get?),λos=>((hK0 w.params).map λp=>some p.2,Uj.map λ_=>some (tabObj #[])))
theorem UB:HD.lc hH Hf df kf=qlc:=by kernel_rfl
name_quick MF for qlc by UB
theorem ilc(w:World):(Fast.MF w).1=(Fast.MF w).2:=by kernel_rfl
theorem hlc:HD.Ok (HD.lc hH Hf df kf):=HD.gc Fast.MF_eq ilc
theorem hleft:LeftO pw hq hl hX hH.obs hH.val 10758:=HD.left (by kernel_rfl) (by decide) (λs=>by kernel_rfl) hs Pc (by decide+kernel) hla hlb hlc
end K26
end
open PySem PySem.W PyProof.Rows
set_option maxRecDepth 100000 in
set_option maxHeartbeats 0 in
theorem PySem.Challenge.cw_keeper_k26_near_the_bounds_holds : PySem.Challenge.rw_keeper_k26_near_the_bounds.Holds := by
  w_on; o_law
  refine PySem.W.holds_open (q := K26.hq) (loose := K26.hl) (Xt := K26.hX) (XP := PySem.W.XL K26.hq []) (Yf := PySem.W.Hook.obs K26.hH) (Ya := PySem.W.Hook.val K26.hH) (YP := PySem.W.Hook.says K26.hH) (N := 10758) K26.hleft (PySem.W.Hook.of _) (PySem.W.Hook.keeps _) (fun s e => PySem.W.xl_of s (Bool.and_eq_true_iff.mp e).1) PySem.W.XL.keeps (by rfl) (by rfl) (by rfl) (fun s e => PySem.W.recFacts_of (Bool.and_eq_true_iff.mp e).2) (by rfl) (by assumption) (by decide +kernel) ⟨rfl, rfl, rfl, rfl, rfl, by decide +kernel⟩ ?hw ?hc
  case hw => w_witness2
  delta K26.hH
  k_fill
  refine' K26.walk (l := PySem.Challenge.rw_keeper_k26_near_the_bounds) (c1 := ?qc1) (T1 := ?qT1) (c2 := ?qc2) (T2 := ?qT2) rfl rfl (fun w h Y => PySem.W.km_in_of Y) ?h2_1 ?h3_1 ?h4_1 ?h2_2 ?h3_2 ?h4_2 ?hne12 ?F
  case F =>
    intro w mg fa h KX G hmg
    have h1_1 : PySem.W.tabIn (L2.KOf KX) "raised" = some (?qc1, ?qT1) := by
      dsimp only [L2.KOf]
      exact rfl
    have h2_1 : PySem.W.codeHdIn (L2.KOf KX) ?qc1 ?qT1 = true := by
      dsimp only [L2.KOf]
      kernel_rfl
    have h1_2 : PySem.W.tabIn (L2.KOf KX) "put_in" = some (?qc2, ?qT2) := by
      dsimp only [L2.KOf]
      exact rfl
    have h2_2 : PySem.W.codeHdIn (L2.KOf KX) ?qc2 ?qT2 = true := by
      dsimp only [L2.KOf]
      kernel_rfl
    have T : ∃ t, K26.Txt (L2.KOf KX) mg t := by
      dsimp only [L2.KOf]
      refine' K26.txt_mk KX G ?a0 ?a1 ?a2 ?a3 ?a4 ?a5 ?a6 ?a7 ?a8 ?a9 ?a10 ?a11 ?a12 ?a13 ?a14 ?a15 ?a16 ?a17 ?a18 ?a19 ?a20 ?a21 ?a22 ?a23 ?a24 ?a25 ?a26 ?a27 ?a28 ?a29 ?a30 ?a31 ?a32 ?z_ValueError ?z_bool ?z_enumerate ?z_int ?z_isinstance ?z_len ?z_list ?z_max ?z_range ?z_tuple ?z_zip ?g_MOST_KNOTS ?g_MOST_DEEP ?g_MOST_VARIABLE ?g_KIDS_DUE ?lk_KIDS_DUE ?sy_KIDS_DUE ?ks_KIDS_DUE ?rf_KIDS_DUE ?u0_KIDS_DUE ?v0_KIDS_DUE ?u1_KIDS_DUE ?v1_KIDS_DUE ?u2_KIDS_DUE ?v2_KIDS_DUE ?u3_KIDS_DUE ?v3_KIDS_DUE ?u4_KIDS_DUE ?v4_KIDS_DUE ?u5_KIDS_DUE ?v5_KIDS_DUE ?u6_KIDS_DUE ?v6_KIDS_DUE ?u7_KIDS_DUE ?v7_KIDS_DUE ?u8_KIDS_DUE ?v8_KIDS_DUE ?u9_KIDS_DUE ?v9_KIDS_DUE ?u10_KIDS_DUE ?v10_KIDS_DUE ?u11_KIDS_DUE ?v11_KIDS_DUE ?u12_KIDS_DUE ?v12_KIDS_DUE ?u13_KIDS_DUE ?v13_KIDS_DUE ?u14_KIDS_DUE ?v14_KIDS_DUE ?u15_KIDS_DUE ?v15_KIDS_DUE ?u16_KIDS_DUE ?v16_KIDS_DUE ?u17_KIDS_DUE ?v17_KIDS_DUE ?g_BINDER_OVER ?lk_BINDER_OVER ?sy_BINDER_OVER ?vs_BINDER_OVER ?g_RULES ?lk_RULES ?sy_RULES ?ks_RULES ?rf_RULES ?u0_RULES ?v0_RULES ?u0_0_RULES ?v0_0_RULES ?u1_RULES ?v1_RULES ?u1_0_RULES ?v1_0_RULES ?u1_1_RULES ?v1_1_RULES ?u2_RULES ?v2_RULES ?u2_0_RULES ?v2_0_RULES ?u3_RULES ?v3_RULES ?u3_0_RULES ?v3_0_RULES ?u4_RULES ?v4_RULES ?u4_0_RULES ?v4_0_RULES ?g_KeeperError ?g_Great ?g_NoPlace ?g_NoStep ?g_Dry ?g_NoVariable ?g_NoName ?g_NotAll ?g_NotSome ?g_NotSame ?g_Unlike ?g_NoText ?g_NoWord ?g_TwiceTold ?g_NotClosed ?x_gr ?x_dr ?x_ns ?x_np ?x_ke ?x_cg1 ?x_cg2 ?x_cg3 ?x_cg4 ?x_cg5 ?x_cg6 ?x_cd1 ?x_cd2 ?x_cd3 ?x_cd4 ?x_cd5 ?x_cd6 ?x_s1 ?x_s2 ?x_vg ?x_vd ?x_g0 ?x_d0 ?x_g1 ?x_d1 ?x_g2 ?x_d2 ?x_g3 ?x_d3 ?x_g4 ?x_d4 ?x_g5 ?x_d5 ?x_g6 ?x_d6 ?x_g7 ?x_d7 ?x_g8 ?x_d8 ?x_g9 ?x_d9 ?x_g10 ?x_d10 ?x_g11 ?x_d11 ?x_g12 ?x_d12 ?x_g13 ?x_d13
      (case a0 => apply L3.dfi; iterate 4 k_is)
      (case a1 => apply L3.dfi; iterate 4 k_is)
      (case a2 => apply L3.dfi; iterate 4 k_is)
      (case a3 => apply L3.dfi; iterate 4 k_is)
      (case a4 => apply L3.dfi; iterate 4 k_is)
      (case a5 => apply L3.dfi; iterate 4 k_is)
      (case a6 => apply L3.dfi; iterate 4 k_is)
      (case a7 => apply L3.dfi; iterate 4 k_is)
      (case a8 => apply L3.dfi; iterate 4 k_is)
      (case a9 => apply L3.dfi; iterate 4 k_is)
      (case a10 => apply L3.dfi; iterate 4 k_is)
      (case a11 => apply L3.dfi; iterate 4 k_is)
      (case a12 => apply L3.dfi; iterate 4 k_is)
      (case a13 => apply L3.dfi; iterate 4 k_is)
      (case a14 => apply L3.dfi; iterate 4 k_is)
      (case a15 => apply L3.dfi; iterate 4 k_is)
      (case a16 => apply L3.dfi; iterate 4 k_is)
      (case a17 => apply L3.dfi; iterate 4 k_is)
      (case a18 => apply L3.dfi; iterate 4 k_is)
      (case a19 => apply L3.dfi; iterate 4 k_is)
      (case a20 => apply L3.dfi; iterate 4 k_is)
      (case a21 => apply L3.dfi; iterate 4 k_is)
      (case a22 => apply L3.dfi; iterate 4 k_is)
      (case a23 => apply L3.dfi; iterate 4 k_is)
      (case a24 => apply L3.dfi; iterate 4 k_is)
      (case a25 => apply L3.dfi; iterate 4 k_is)
      (case a26 => apply L3.dfi; iterate 4 k_is)
      (case a27 => apply L3.dfi; iterate 4 k_is)
      (case a28 => apply L3.dfi; iterate 4 k_is)
      (case a29 => apply L3.dfi; iterate 4 k_is)
      (case a30 => apply L3.dfi; iterate 4 k_is)
      (case a31 => apply L3.dfi; iterate 4 k_is)
      (case a32 => apply L3.dfi; iterate 4 k_is)
      (case z_ValueError => k_is)
      (case z_bool => k_is)
      (case z_enumerate => k_is)
      (case z_int => k_is)
      (case z_isinstance => k_is)
      (case z_len => k_is)
      (case z_list => k_is)
      (case z_max => k_is)
      (case z_range => k_is)
      (case z_tuple => k_is)
      (case z_zip => k_is)
      (case g_MOST_KNOTS => k_is)
      (case g_MOST_DEEP => k_is)
      (case g_MOST_VARIABLE => k_is)
      (case g_KIDS_DUE => k_is)
      (case lk_KIDS_DUE => k_is)
      (case sy_KIDS_DUE => decide +kernel)
      (case ks_KIDS_DUE => kernel_rfl)
      (case rf_KIDS_DUE => rfl)
      (case u0_KIDS_DUE => k_is)
      (case v0_KIDS_DUE => decide +kernel)
      (case u1_KIDS_DUE => k_is)
      (case v1_KIDS_DUE => decide +kernel)
      (case u2_KIDS_DUE => k_is)
      (case v2_KIDS_DUE => decide +kernel)
      (case u3_KIDS_DUE => k_is)
      (case v3_KIDS_DUE => decide +kernel)
      (case u4_KIDS_DUE => k_is)
      (case v4_KIDS_DUE => decide +kernel)
      (case u5_KIDS_DUE => k_is)
      (case v5_KIDS_DUE => decide +kernel)
      (case u6_KIDS_DUE => k_is)
      (case v6_KIDS_DUE => decide +kernel)
      (case u7_KIDS_DUE => k_is)
      (case v7_KIDS_DUE => decide +kernel)
      (case u8_KIDS_DUE => k_is)
      (case v8_KIDS_DUE => decide +kernel)
      (case u9_KIDS_DUE => k_is)
      (case v9_KIDS_DUE => decide +kernel)
      (case u10_KIDS_DUE => k_is)
      (case v10_KIDS_DUE => decide +kernel)
      (case u11_KIDS_DUE => k_is)
      (case v11_KIDS_DUE => decide +kernel)
      (case u12_KIDS_DUE => k_is)
      (case v12_KIDS_DUE => decide +kernel)
      (case u13_KIDS_DUE => k_is)
      (case v13_KIDS_DUE => decide +kernel)
      (case u14_KIDS_DUE => k_is)
      (case v14_KIDS_DUE => decide +kernel)
      (case u15_KIDS_DUE => k_is)
      (case v15_KIDS_DUE => decide +kernel)
      (case u16_KIDS_DUE => k_is)
      (case v16_KIDS_DUE => decide +kernel)
      (case u17_KIDS_DUE => k_is)
      (case v17_KIDS_DUE => decide +kernel)
      (case g_BINDER_OVER => k_is)
      (case lk_BINDER_OVER => k_is)
      (case sy_BINDER_OVER => decide +kernel)
      (case vs_BINDER_OVER => kernel_rfl)
      (case g_RULES => k_is)
      (case lk_RULES => k_is)
      (case sy_RULES => decide +kernel)
      (case ks_RULES => kernel_rfl)
      (case rf_RULES => rfl)
      (case u0_RULES => k_is)
      (case v0_RULES => rfl)
      (case u0_0_RULES => k_is)
      (case v0_0_RULES => decide +kernel)
      (case u1_RULES => k_is)
      (case v1_RULES => rfl)
      (case u1_0_RULES => k_is)
      (case v1_0_RULES => decide +kernel)
      (case u1_1_RULES => k_is)
      (case v1_1_RULES => decide +kernel)
      (case u2_RULES => k_is)
      (case v2_RULES => rfl)
      (case u2_0_RULES => k_is)
      (case v2_0_RULES => decide +kernel)
      (case u3_RULES => k_is)
      (case v3_RULES => rfl)
      (case u3_0_RULES => k_is)
      (case v3_0_RULES => decide +kernel)
      (case u4_RULES => k_is)
      (case v4_RULES => rfl)
      (case u4_0_RULES => k_is)
      (case v4_0_RULES => decide +kernel)
      (case g_KeeperError => k_is)
      (case g_Great => k_is)
      (case g_NoPlace => k_is)
      (case g_NoStep => k_is)
      (case g_Dry => k_is)
      (case g_NoVariable => k_is)
      (case g_NoName => k_is)
      (case g_NotAll => k_is)
      (case g_NotSome => k_is)
      (case g_NotSame => k_is)
      (case g_Unlike => k_is)
      (case g_NoText => k_is)
      (case g_NoWord => k_is)
      (case g_TwiceTold => k_is)
      (case g_NotClosed => k_is)
      (case x_gr => kernel_rfl)
      (case x_dr => kernel_rfl)
      (case x_ns => kernel_rfl)
      (case x_np => kernel_rfl)
      (case x_ke => kernel_rfl)
      (case x_cg1 => k_is)
      (case x_cg2 => k_is)
      (case x_cg3 => k_is)
      (case x_cg4 => k_is)
      (case x_cg5 => k_is)
      (case x_cg6 => kernel_rfl)
      (case x_cd1 => k_is)
      (case x_cd2 => k_is)
      (case x_cd3 => k_is)
      (case x_cd4 => k_is)
      (case x_cd5 => k_is)
      (case x_cd6 => kernel_rfl)
      (case x_s1 => k_is)
      (case x_s2 => k_is)
      (case x_vg => kernel_rfl)
      (case x_vd => kernel_rfl)
      (case x_g0 => kernel_rfl)
      (case x_d0 => kernel_rfl)
      (case x_g1 => kernel_rfl)
      (case x_d1 => kernel_rfl)
      (case x_g2 => kernel_rfl)
      (case x_d2 => kernel_rfl)
      (case x_g3 => kernel_rfl)
      (case x_d3 => kernel_rfl)
      (case x_g4 => kernel_rfl)
      (case x_d4 => kernel_rfl)
      (case x_g5 => kernel_rfl)
      (case x_d5 => kernel_rfl)
      (case x_g6 => kernel_rfl)
      (case x_d6 => kernel_rfl)
      (case x_g7 => kernel_rfl)
      (case x_d7 => kernel_rfl)
      (case x_g8 => kernel_rfl)
      (case x_d8 => kernel_rfl)
      (case x_g9 => kernel_rfl)
      (case x_d9 => kernel_rfl)
      (case x_g10 => kernel_rfl)
      (case x_d10 => kernel_rfl)
      (case x_g11 => kernel_rfl)
      (case x_d11 => kernel_rfl)
      (case x_g12 => kernel_rfl)
      (case x_d12 => kernel_rfl)
      (case x_g13 => kernel_rfl)
      (case x_d13 => kernel_rfl)
    obtain ⟨t, T⟩ := T
    exact K26.fin KX G h1_1 h2_1 h1_2 h2_2 T hmg
  case h2_1 => intro w; kernel_rfl
  case h3_1 => intro w; kernel_rfl
  case h4_1 => exact fun w h Y => PySem.W.km_tabs_of Y _ (by decide)
  case h2_2 => intro w; kernel_rfl
  case h3_2 => intro w; kernel_rfl
  case h4_2 => exact fun w h Y => PySem.W.km_tabs_of Y _ (by decide)
  case hne12 => decide
