import PyProof.Rows.All
import Wide.All
import OpenK.AllK
import Wide.FinOn
import Lean
import PyProof.EqAt
import PyProof.EqKinds
import PyProof.TupleCall
import PyProof.ZipIter
import PyProof.Draws
import PyProof.TupleIter
import PySem.Value
import PyProof.NeKinds
import PyProof.ExcClass2
import PyProof.StationsW
import OpenK.KOwn
import KE.KIsAll
import PyProof.RulesAs
import PyProof.NsDelKeeps
import PyProof.PassesOwn
import PyProof.ExcArgsOwn
import PyProof.IsiH_list
import PyProof.EnumMake
import PyProof.EnumFor
import PyProof.WalksEnum
import PyProof.Rows.EnumRows
import PyProof.SumWalk
import PyProof.StrCalls
import PyProof.Rows.StrJoin2
import PyProof.WalkInts
import KE.KDictOf
import KE.KEqDict
import PyProof.EqLayable
import PyProof.P3Eq
import PyProof.MeetsIn
import PyProof.StrCalls6
import PyProof.StrLaws
import PyProof.StrLawsIn
import PyProof.StrLawsChain
import PyProof.MeetsStr2
import PyProof.StrOps2
import PyProof.CallStr
import KE.KIntText
import KE.KRevIter
import PyProof.Rows.StrInSeq3
import PyProof.Rows.SeqMore2
import KE.KNestM
import PySem.Challenge.RW_keeper_k12_free_variables
set_option Elab.async false
set_option linter.all false
set_option maxRecDepth 100000
set_option bootstrap.genMatcherCode false
set_option genSizeOf false
set_option genSizeOfSpec false
set_option maxHeartbeats 8000000
open PySem renaming wpAny_bind->zQ00,wpAny_pure->zQ02,wpAny_call_entry->eG,wpAny_field->cP,wpAny_newObj_type->gd,wpAny_holding->d8,wpAny_setField_rec->js,wpAny_askSetting->jX
open PySem.Heap renaming get?_push_of_some->zQ01,lt_size->zQ05,get?_push_size->zQ09,size_push->zQ20,get?_update_other->pH
open List renaming getElem?_eq_getElem->zQ03,size_toArray->bY,mem_cons_self->dj,mem_cons_of_mem->d9,mem_append_right->fh,length_map->dA,length_append->gf,replicate->eE,mem_cons->zQ26,not_mem_nil->zQ27,getElem?_map->ic,map_cons->eX,length_cons->ig,lookup_cons->ik,mem_append_left->kY,filterMap_cons->lQ,getElem_of_mem->lX,append_assoc->jR
open Nat renaming le_refl->zQ04,zero_le->zQ08,lt_of_lt_of_le->dk,le_trans->bM,ne_of_lt->zQ15,lt_succ_of_lt->zQ36
open Bool renaming false_ne_true->cJ,and_eq_true->cu,false_eq_true->eW
noncomputable section
section
namespace L2
open PySem PySem.Spec PyProof.Rows
theorem dh{n:Nat}(h:Nat.ble n 16777216=true):n<=sizeLine:=bM (Nat.le_of_ble_eq_true h) (by decide)
def HB(base:Heap)(A:Around):Prop:=A.handled=none\/∃a oe vs,A.handled=some (.ref a)/\base.get? a=some oe/\oe.data= .fields vs/\vs[2]?=some .none
def Ju(base:Heap)(pn:List (Addr×Obj))(A:Around):Prop:=A.handled=none\/∃a oe vs,A.handled=some (.ref a)/\(base.get? a=some oe\/(a,oe)∈pn)/\oe.data= .fields vs/\vs[2]?=some .none
theorem HB.LM{base:Heap}{pn:List (Addr×Obj)}{A:Around}(h:HB base A):Ju base pn A:=by
 rcases h with h|⟨a,oe,vs,b,c,d⟩;·exact .inl h
 ·exact .inr ⟨a,oe,vs,b, .inl c,d⟩
theorem ng:entryFor table "proto.unchain"=some Builtin.«proto.unchain»:=entryFor_of_tree (by kernel_rfl)
section
variable{prog:Program}{w:World}{A:Around}{E:Value->Shared->Prop}{s:Shared}{base:Heap}
theorem HB.mono{h h':Heap}(hb:HB h A)(e:∀a o,A.handled=some (.ref a)->h.get? a=some o->h'.get? a=some o):HB h' A:=by
 rcases hb with hb|⟨a,oe,vs,b,c,d⟩;·exact .inl hb
 ·exact .inr ⟨a,oe,vs,b,e a oe b c,d⟩
theorem uL{n a:Addr}{oe:Obj}{vs:Array Value}{Q:Value->Shared->Prop}(he:s.heap.get? a=some oe)(hd:oe.data= .fields vs)(h2:vs[2]?=some .none)(h:Q .none s):wpAny (model prog w) A (runValue (.builtin "proto.unchain" ⟨[.ref n, .ref a, .ref a, .bool false],[]⟩)) Q E s:=by refine wpAny_runValue (codeAny_builtin ng ?_);show wpAny _ _ (field (.ref a) 2>>=_) _ _ s;refine zQ00 (cP he hd h2 ?_);rw[if_pos (show(Value.none==Value.none)=true by rfl)];exact zQ02 h
theorem dG{f:Type}{Q:f->Shared->Prop}(hb:HB s.heap A)(d:∀h' e,(∀b o,s.heap.get? b=some o->h'.get? b=some o)->(∃o,h'.get? e=some o/\o.cls= .type "StopIteration")->E (.ref e) {s with heap:=h'}):wpAny (model prog w) A (newExc (.type "StopIteration") []>>=λe=>(raiseNew e:Sem f)) Q E s:=by
 refine zQ00 ?_;simp only[newExc,newTuple];refine zQ00 (gd ?_ (by size_fits));refine zQ00 (m:=firstArgMember _ _) (wpAny_of_eq (a:=Value.none) (by first|rfl|(simp only[firstArgMember];rfl)) ?_);refine gd ?_ (by size_fits);simp only[raiseNew];refine zQ00 (wpAny_handled ?_);rcases hb with hb|⟨a,oe,vs,hb,g,h,i⟩;·rw[hb];refine zQ00 (zQ02 (wpAny_throw (d _ _ (λb o e=>zQ01 _ (zQ01 _ e)) ⟨_,zQ09 _ rfl,rfl⟩)))
 ·rw[hb];have c:=g;have lt:=zQ05 c;have ne:a≠(s.heap.push {cls:= .type "tuple",data:= .seq #[]}).objs.size:=by rw[zQ20];exact zQ15 (zQ36 lt)
  dsimp only;rw[if_pos (by simpa using ne)];refine zQ00 (d8 (uL (zQ01 _ (zQ01 _ c)) h i ?_));refine zQ00 ?_;show wpAny (model prog w) A (setField (.ref _) 2 (.ref a)) _ _ _;refine wpAny_setField (zQ09 _ rfl) rfl (by simp;lia) (wpAny_throw (d _ _ (λb o e=>?_) ⟨_,Heap.get?_update_self _ (zQ09 _ rfl) (Obj.isFreed_of_fields (Obj.data_mapFields rfl _)),Obj.cls_mapFields _ _⟩));rw[pH _ _ ?_];·exact zQ01 _ (zQ01 _ e)
  ·have :=zQ05 e;intro z;rw[<-z,zQ20]at this;exact Nat.not_succ_lt_self this
theorem iB{Q:Bool->Shared->Prop}{h':Heap}{e:Addr}(he:∃o,h'.get? e=some o/\o.cls= .type "StopIteration")(h:Q true {s with heap:=h'}):wpAny (model prog w) A (isInstance (.ref e) (.type "StopIteration")) Q E {s with heap:=h'}:=by obtain⟨o,ho,hc⟩:=he;exact wpAny_isInstance (T:="StopIteration") (b:=true) ⟨o,ho,hc⟩ isSubtype_stop h
theorem HB.upd{it:Addr}{f:Obj->Obj}(hb:HB s.heap A)(na:∀a,A.handled=some (.ref a)->a≠it):HB (s.heap.update it f) A:=hb.mono λa o b c=>(pH _ _ (Ne.symm (na a b))).trans c
theorem iz{it:Addr}{f:Obj->Obj}{h':Heap}(k:∀b o,(s.heap.update it f).get? b=some o->h'.get? b=some o):Heap.ExtBut it s.heap h':=λb o hb e=>k b o ((pH _ _ (Ne.symm hb)).trans e)
theorem next_tuple_end{it l:Addr}{i:Nat}{items:Array Value}{Q:Option Value->Shared->Prop}(hb:HB s.heap A)(na:∀a,A.handled=some (.ref a)->a≠it)(b:s.heap.IsTupleIter it l i)(hl:s.heap.IsTuple l items)(d:items[i]?=none)(c:∀h',Heap.ExtBut it s.heap h'->Q none {s with heap:=h'}):wpAny (model prog w) A (pyNext (.ref it)) Q E s:=by obtain⟨o,ho,hc,hd⟩:=id b;obtain⟨ol,hol,_,nl,hdl⟩:=hl;unfold pyNext;refine zQ00 (wpAny_attempt (wpAny_callSpecial?_slot (name:=Str.ofString "__next__") b.typeIs F.slot_tuple_iterator_next (eG F.slot_tuple_iterator_next b.typeIs F.entry_tuple_iterator_next ?_ (F.args_tuple_iterator_next_1 _))));show wpAny (model prog w) _ (field (.ref it) 0>>=_) _ _ s;refine zQ00 (cP ho hd (x:= .ref l) rfl ?_);show wpAny (model prog w) _ (if(Value.ref l==Value.none)=true then _ else _) _ _ s;rw[if_neg (show¬(Value.ref l==Value.none)=true from cJ)];show wpAny (model prog w) _ (field (.ref it) 1>>=_) _ _ s;refine zQ00 (cP ho hd (x:= .int i 0) rfl ?_);show wpAny (model prog w) _ (seqItems? (.ref l)>>=_) _ _ s;refine zQ00 (wpAny_seqItems hol hdl ?_);simp only[Int.toNat_natCast,d];refine zQ00 (wpAny_rule (zQ00 (wpAny_setField ho hd (by simp) ?_)));exact dG (A:=A.in1) (hb.upd na) λh' e k he=>zQ00 (iB he (zQ02 (c h' (iz k))))
theorem jb{it:Addr}{x left step:Int}{Q:Option Value->Shared->Prop}(hb:HB s.heap A)(a:IsRangeIter s.heap it x left step)(hleft:left<=0)(d:∀h',Heap.ExtBut it s.heap h'->Q none {s with heap:=h'}):wpAny (model prog w) A (pyNext (.ref it)) Q E s:=by have hT:s.TypeIs (.ref it) "range_iterator":=⟨_,a,rfl⟩;unfold pyNext;refine zQ00 (wpAny_attempt (wpAny_callSpecial?_slot (name:=Str.ofString "__next__") hT F.slot_range_iterator_next (eG F.slot_range_iterator_next hT F.entry_range_iterator_next ?_ (F.args_range_iterator_next_1 _))));show wpAny (model prog w) _ (field (.ref it) 0>>=_) _ _ s;refine zQ00 (cP a rfl (x:=rawInt x) rfl ?_);show wpAny (model prog w) _ (field (.ref it) 1>>=_) _ _ s;refine zQ00 (cP a rfl (x:=rawInt left) rfl ?_);show wpAny (model prog w) _ (field (.ref it) 2>>=_) _ _ s;refine zQ00 (cP a rfl (x:=rawInt step) rfl ?_);show wpAny (model prog w) _ (if left<=0 then _ else _) _ _ s;rw[if_pos hleft];refine zQ00 (wpAny_rule ?_);refine zQ00 ?_;exact dG (A:=A.in1) hb λh' e k he=>zQ00 (iB he (zQ02 (d h' λb o _ c=>k b o c)))
theorem jn{it:Addr}{x:Str}{t:Tok}{i:Nat}{Q:Option Value->Shared->Prop}(hb:HB s.heap A)(na:∀a,A.handled=some (.ref a)->a≠it)(b:s.heap.IsStrIter it "str_ascii_iterator" x t i)(d:x.cps[i]?=none)(c:∀h',Heap.ExtBut it s.heap h'->Q none {s with heap:=h'}):wpAny (model prog w) A (pyNext (.ref it)) Q E s:=by obtain⟨o,ho,hc,hd⟩:=id b;unfold pyNext;refine zQ00 (wpAny_attempt (wpAny_callSpecial?_slot (name:=Str.ofString "__next__") b.typeIs F.slot_str_ascii_iterator_next (eG F.slot_str_ascii_iterator_next b.typeIs F.entry_str_ascii_iterator_next ?_ (F.args_str_ascii_iterator_next_1 _))));show wpAny (model prog w) _ (field (.ref it) 0>>=_) _ _ s;refine zQ00 (cP ho hd (x:= .str x t) rfl ?_);show wpAny (model prog w) _ (field (.ref it) 1>>=_) _ _ s;refine zQ00 (cP ho hd (x:= .int i 0) rfl ?_);simp only[Int.toNat_natCast,d];refine zQ00 (wpAny_rule (zQ00 (wpAny_setField ho hd (by simp) (zQ00 (wpAny_letGo ?_)))));exact dG (A:=A.in1) (hb.upd na) λh' e k he=>zQ00 (iB he (zQ02 (c h' (iz k))))
theorem jO{it:Addr}{x:Str}{t:Tok}{i:Nat}{Q:Option Value->Shared->Prop}(hb:HB s.heap A)(na:∀a,A.handled=some (.ref a)->a≠it)(b:s.heap.IsStrIter it "str_iterator" x t i)(d:x.cps[i]?=none)(c:∀h',Heap.ExtBut it s.heap h'->Q none {s with heap:=h'}):wpAny (model prog w) A (pyNext (.ref it)) Q E s:=by obtain⟨o,ho,hc,hd⟩:=id b;unfold pyNext;refine zQ00 (wpAny_attempt (wpAny_callSpecial?_slot (name:=Str.ofString "__next__") b.typeIs F.slot_str_iterator_next (eG F.slot_str_iterator_next b.typeIs F.entry_str_iterator_next ?_ (F.args_str_iterator_next_1 _))));show wpAny (model prog w) _ (field (.ref it) 0>>=_) _ _ s;refine zQ00 (cP ho hd (x:= .str x t) rfl ?_);show wpAny (model prog w) _ (field (.ref it) 1>>=_) _ _ s;refine zQ00 (cP ho hd (x:= .int i 0) rfl ?_);simp only[Int.toNat_natCast,d];refine zQ00 (wpAny_rule (zQ00 (wpAny_setField ho hd (by simp) (zQ00 (wpAny_letGo ?_)))));exact dG (A:=A.in1) (hb.upd na) λh' e k he=>zQ00 (iB he (zQ02 (c h' (iz k))))
theorem xk{t:Addr}{items:Array Value}{Q:List Value->Shared->Prop}(hb:HB s.heap A)(ht:s.heap.IsTuple t items)(j:∀h',Heap.ExtBut s.heap.objs.size s.heap h'->Q items.toList {s with heap:=h'}):wpAny (model prog w) A (unpackItems (.ref t) items.size none) Q E s:=by
 have hlt:t≠s.heap.objs.size:=by obtain⟨o,ho,_⟩:=ht;exact zQ15 (zQ05 ho)
 have g:∀a,A.handled=some (.ref a)->a≠s.heap.objs.size:=λa c=>by
  rcases hb with hb|⟨q,oe,vs,h,i,_⟩;·rw[hb]at c;cases c
  ·rw[h]at c;cases c;exact zQ15 (zQ05 i)
 unfold unpackItems;refine zQ00 ?_;unfold notIterableAtAll;refine zQ00 (wpAny_specialOf ht.typeIs F.slot_tuple_iter.lookup (zQ02 ?_));simp only[eW,if_false];refine zQ00 (d8 (wpAny_pyIter_tuple ht ?_));refine zQ00 (d8 (wpAny_draw_tuple hlt items.size 0 _ _ ⟨_,zQ09 _ rfl,rfl,rfl⟩ (ht.push _) (by lia) λf m d=>?_));rw[show List.take items.size (List.drop 0 items.toList)=items.toList by rw[List.drop_zero];exact List.take_of_length_le (by simp),if_neg (by simp)];have n:f.IsTuple t items:=(ht.push _).extBut d.extBut hlt;have k:HB f A:=hb.mono λa o c eo=>d.extBut a o (g a c) (zQ01 _ eo);refine zQ00 (d8 (next_tuple_end (s:={s with heap:=f}) k g m n (by simp) λp l=>?_));simp only[Option.isSome_none,eW,if_false];exact zQ02 (j p λb o hb e=>l b o hb (d.extBut b o hb (zQ01 _ e)))
theorem wX{env:Env}{elts:List Expr}{c}{b:Pos}{t:Addr}{items:Array Value}{Q:Unit->Shared->Prop}(hb:HB s.heap A)(ht:s.heap.IsTuple t items)(hn:(assignEach elts env).length=items.size)(a:(assignEach elts env).findIdx? (·.1)=none)(h:∀h',Heap.ExtBut s.heap.objs.size s.heap h'->wpAny (model prog w) A (assignInOrder ((assignEach elts env).map (·.2)) items.toList) Q E {s with heap:=h'}):wpAny (model prog w) A (assign (.Tuple elts c b) env (.ref t)) Q E s:=by rw[arm_assign_Tuple];refine zQ00 (wpAny_standAt ?_);unfold unpack;rw[hn,a];exact zQ00 (d8 (xk hb ht h))
end
theorem oP{prog:Program}{w:World}{A:Around}{s:Shared}{Q:Option Value->Shared->Prop}{E:Value->Shared->Prop}{I:Addr}{a c:Int}{n i:Nat}(hi:i<n)(st:IsRangeIter s.heap I (a+(i:Nat)*c) ((n:Int)-(i:Nat)) c)(d:∀v h' tk,(∃t,v= .int (a+i*c) t)->IsRangeIter h' I (a+((i+1:Nat):Int)*c) ((n:Int)-((i+1:Nat):Int)) c->(∀b o,b∉[I]->s.heap.get? b=some o->h'.get? b=some o)->Q (some v) {s with heap:=h',toks:=tk}):wpAny (model prog w) A (pyNext (.ref I)) Q E s:=by refine wpAny_pyNext_range_item st (by lia) λh' f g=>d _ h' _ ⟨_,rfl⟩ ?_ λb o hb e=>g.extBut b o (λh=>hb (by simp[h])) e;rw[show a+((i+1:Nat):Int)*c=a+(i:Int)*c+c by push_cast;rw[Int.add_mul,Int.one_mul,Int.add_assoc],show(n:Int)-((i+1:Nat):Int)=(n:Int)-(i:Int)-1 by push_cast;lia];exact f
noncomputable def iJ(A:Around):List Addr:=match A.handled with|some (.ref a)=>[a]|_=>[]
theorem nT{A:Around}{d:Addr}(h:d∈iJ A):A.handled=some (.ref d):=by
 unfold iJ at h;split at h;·rename_i a e;rw[List.mem_singleton.mp h];exact e
 ·cases h
theorem HB.frame{A:Around}{h h':Heap}(hb:HB h A)(k:∀b∈iJ A,∀o,h.get? b=some o->h'.get? b=some o):HB h' A:=hb.mono λa o c eo=>k a (by unfold iJ;rw[c];simp) o eo
noncomputable abbrev Key:=Sum Int Str
noncomputable def ku:Key->Value->Bool| .inl k,v=>Value.isInt k v| .inr x,v=>Value.isStrOf x v
noncomputable def FY(w:World):Key->Int| .inl k=>hashInt k| .inr x=>hashStr w x
theorem bw:∀{k:Key}{v:Value},ku k v=true->(∃i t,k=Sum.inl i/\v=Value.int i t)\/(∃x t,k=Sum.inr x/\v=Value.str x t)| .inl i,v,h=>by obtain⟨t,e⟩:=Value.isInt_shape (k:=i) (v:=v) h;exact .inl ⟨i,t,rfl,e⟩| .inr x,v,h=>by obtain⟨t,e⟩:=Value.isStrOf_shape (x:=x) (v:=v) h;exact .inr ⟨x,t,rfl,e⟩
theorem tD(i:Int)(t:Tok):ku (.inl i) (.int i t)=true:=by simp[ku,Value.isInt]
theorem tF(x:Str)(t:Tok):ku (.inr x) (.str x t)=true:=by simp[ku,Value.isStrOf]
theorem AJ(a b:Int):decide ((Sum.inl a:Key)=Sum.inl b)=(a==b):=by
 by_cases e:a=b;·subst e;simp
 ·have h:¬(Sum.inl a:Key)=Sum.inl b:=λq=>e (Sum.inl.inj q);rw[decide_eq_false h];exact(beq_eq_false_iff_ne.mpr e).symm
theorem zw(a b:Str):decide ((Sum.inr a:Key)=Sum.inr b)=decide (a=b):=by
 by_cases e:a=b;·subst e;simp
 ·have h:¬(Sum.inr a:Key)=Sum.inr b:=λq=>e (Sum.inr.inj q);rw[decide_eq_false h,decide_eq_false e]
theorem Ac(a:Int)(b:Str):decide ((Sum.inl a:Key)=Sum.inr b)=false:=decide_eq_false (λq=>nomatch q)
theorem A0(a:Str)(b:Int):decide ((Sum.inr a:Key)=Sum.inl b)=false:=decide_eq_false (λq=>nomatch q)
noncomputable def bx(prog:Program)(w:World):PySem.KeyKind prog w Key where
 is:=ku;hash:=FY w;inj:=λv a b ha hb=>by
  rcases bw ha with⟨i,t,rfl,rfl⟩|⟨x,t,rfl,rfl⟩
  ·rcases bw hb with⟨j,u,rfl,e⟩|⟨y,u,rfl,e⟩;·injection e with c _;rw[c]
   ·exact nomatch e
  ·rcases bw hb with⟨j,u,rfl,e⟩|⟨y,u,rfl,e⟩;·exact nomatch e
   ·injection e with c _;rw[c]
 byValue:=λk v h=>by rcases bw h with⟨i,t,rfl,rfl⟩|⟨x,t,rfl,rfl⟩<;>rfl
 pyHash:=λhv h=>by
  rcases bw hv with⟨i,t,rfl,rfl⟩|⟨x,t,rfl,rfl⟩;·exact wpAny_pyHash_int h
  ·exact wpAny_pyHash_str h
 eqBool:=λd hv h=>by
  rcases bw d with⟨i,t,rfl,rfl⟩|⟨x,t,rfl,rfl⟩
  ·rcases bw hv with⟨j,u,rfl,rfl⟩|⟨y,u,rfl,rfl⟩;·rw[AJ]at h;exact wpAny_eqBool_int h
   ·rw[Ac]at h;exact SeqAt.EqAt.int_str i t y u _ _ _ _ h
  ·rcases bw hv with⟨j,u,rfl,rfl⟩|⟨y,u,rfl,rfl⟩;·rw[A0]at h;exact SeqAt.EqAt.str_int x t j u _ _ _ _ h
   ·rw[zw]at h;exact wpAny_eqBool_str h
 «strs»:=λk x t v h=>by
  rcases bw h with⟨i,u,rfl,e⟩|⟨y,u,rfl,e⟩;·exact nomatch e
  ·injection e with c _;subst c;cases v<;>rfl
theorem oo(prog:Program)(w:World)(i:Int)(t:Tok):(bx prog w).is (.inl i) (.int i t)=true:=tD i t
theorem nB(prog:Program)(w:World)(x:Str)(t:Tok):(bx prog w).is (.inr x) (.str x t)=true:=tF x t
inductive V where|bj|bl(b:Bool)|int(i:Int)|str(x:Str)|tP(b:Array UInt8)|AI(b:UInt64)|ref(a:Addr)|ty(n:String)deriving DecidableEq
noncomputable def RelV:V->Value->Prop| .bj,u=>u=Value.none| .bl b,u=>u=Value.bool b| .int i,u=>∃t,u=Value.int i t| .str x,u=>∃t,u=Value.str x t| .tP b,u=>∃t,u=Value.bytes b t| .AI b,u=>∃t,u=Value.float b t| .ref a,u=>u=Value.ref a| .ty n,u=>u=Value.type n
noncomputable abbrev Vals:List V->List Value->Prop:=Paired RelV
theorem Vals.length{xs:List V}{us:List Value}(r:Vals xs us):xs.length=us.length:=Paired.length r
theorem Vals.get:∀{xs:List V}{us:List Value}{i:Nat}{x:V},Vals xs us->xs[i]?=some x->∃u,us[i]?=some u/\RelV x u|_,_,_,_, .nil,e=>by simp at e|_,_,0,_, .cons r _,e=>by simp at e;subst e;exact⟨_,rfl,r⟩|_,_,i+1,x, .cons _ t,e=>by obtain⟨u,h1,h2⟩:=Vals.get (i:=i) (x:=x) t (by simpa using e);exact⟨u,by simpa using h1,h2⟩
theorem Vals.set{x:V}{u:Value}(r:RelV x u):∀{xs:List V}{us:List Value}(i:Nat),Vals xs us->Vals (xs.set i x) (us.set i u)|_,_,_, .nil=> .nil|_,_,0, .cons _ t=> .cons r t|_,_,i+1, .cons q t=> .cons q (Vals.set r i t)
theorem Vals.append:∀{xs b:List V}{us a:List Value},Vals xs us->Vals b a->Vals (xs++b) (us++a)|_,_,_,_, .nil,s=>s|_,_,_,_, .cons r t,s=> .cons r (Vals.append t s)
theorem Vals.take:∀{xs:List V}{us:List Value}(n:Nat),Vals xs us->Vals (xs.take n) (us.take n)|_,_,0,_=> .nil|_,_,_+1, .nil=> .nil|_,_,n+1, .cons r t=> .cons r (Vals.take n t)
theorem Vals.drop:∀{xs:List V}{us:List Value}(n:Nat),Vals xs us->Vals (xs.drop n) (us.drop n)|_,_,0,r=>r|_,_,_+1, .nil=> .nil|_,_,n+1, .cons _ t=>Vals.drop n t
noncomputable def gp:Option V->Option Value->Prop|some v,some u=>RelV v u|none,none=>True|_,_=>False
noncomputable def KV{a:Type}:List (a×V)->List (a×Value)->Prop:=Paired λ(p:a×V)(q:a×Value)=>p.1=q.1/\RelV p.2 q.2
noncomputable def kV:Key->V| .inl i=> .int i| .inr x=> .str x
inductive GP where|tab(q:Str)(ln cl:Value)|code(q:Str)
inductive HO where/--a list -/|lst(xs:List V)/--a tuple (never changes) -/|tup(xs:List V)/--a dict whose keys are ints and texts; one whose keys are tuples of ints and texts (the empty one is both) -/|dK(aL:List (Key×V))|dT(aL:List (List Key×V))/--a set of ints: its members, its size -/|set(S:Int->Bool)(n:Nat)/--an instance of the class at C, its dict at dx, its attributes -/|ins(C dx:Addr)(fs:List (Str×V))/--the dict of the instance at x -/|own(x:Addr)/--the dict of an exception -/|xd(fs:List (Str×V))/--a bound method, f of x -/|met(f x:Addr)/--a range object lo, lo + 1, .. below hi -/|Fq(lo hi:Int)/--a thing that is known to the object (the script; a dict while a loop walks it): read, never written while it is so -/|rT(o:Obj)(u:HO)/--a code object's table -/|u3(ps:GP)/--any other thing, by what is true of its one object (a def of one's own: SetO a S n := HO.ext fun h => ..) -/|ext(φ:Heap->Prop)
noncomputable abbrev Hp:=Addr->Option HO
noncomputable def upd(H:Hp)(a:Addr)(o:HO):Hp:=λb=>if b=a then some o else H b
theorem ai{H:Hp}{a:Addr}{o:HO}:upd H a o a=some o:=by unfold upd;rw[if_pos rfl]
theorem aG{H:Hp}{a b:Addr}{o:HO}(h:b≠a):upd H a o b=H b:=by unfold upd;rw[if_neg h]
theorem iA{H:Hp}{a:Addr}{o u:HO}:upd (upd H a o) a u=upd H a u:=by funext b;unfold upd;split<;>rfl
theorem C_{H:Hp}{a b:Addr}{o u:HO}(h:H a=some o)(h':H b=some u)(d:o≠u):a≠b:=by intro e;subst e;rw[h]at h';exact d (Option.some.inj h')
theorem aB{H:Hp}{a b:Addr}{o:HO}(h:H a=some o)(h':H b=none):a≠b:=by intro e;subst e;rw[h]at h';cases h'
section
variable(P:Program)(w:World)
noncomputable def br(H:Hp)(h:Heap)(a:Addr):HO->Prop| .lst xs=>xs.length<=sizeLine/\∃(b:List Value)(n:Nat),Vals xs b/\h.get? a=some {cls:= .type "list",data:= .seq b.toArray n}| .tup xs=>xs.length<=sizeLine/\∃b:List Value,Vals xs b/\IsTup h a b.toArray| .dK aL=>aL.length<=sizeLine/\(a==sysModules)=false/\∃vs,KV aL vs/\h.DictOf (bx P w) a vs| .dT aL=>aL.length<=sizeLine/\(a==sysModules)=false/\∃xs:List (List Key×Addr×Value),Paired (λ(p:List Key×V)(q:List Key×Addr×Value)=>p.1=q.1/\H q.2.1=some (.tup (p.1.map kV))/\RelV p.2 q.2.2) aL xs/\∃o es ep,h.get? a=some o/\o.ExactDict/\o.data= .dict es ep/\es.toList=xs.map (entryOfKey (tupleKind (bx P w)))/\(xs.map (·.1)).Nodup| .set S n=>h.SetOf (intKind P w) a S n| .ins C dx fs=>H dx=some (.own a)/\fs.length<=1000/\dx≠a/\h.get? a=some (PySem.W.instObj C dx)/\∃mA,h.Ns1 dx mA/\(∀f,gp (fs.lookup f) (mA f))/\PySem.Within mA (fs.map (·.1))| .own _=>∃o,h.get? a=some o| .xd fs=>∃mA,h.Ns1 a mA/\∀f,gp (fs.lookup f) (mA f)| .Fq lo hi=>∃t u v,h.get? a=some {cls:= .type "range",data:= .fields #[.int lo t, .int hi u, .int 1 v]}| .rT o u=>h.get? a=some o/\br H h a u| .u3 (.tab q ln cl)=>h.get? a=some {cls:= .none,data:= .fields #[]}\/∃c,h.get? a=some {cls:= .none,data:= .fields #[ln,cl, .ref c]}/\H c=some (.u3 (.code q))| .u3 (.code q)=>h.CodeRec (.ref a) q| .met f x=>h.get? a=some (PySem.W.methodObj (.ref f) (.ref x))| .ext φ=>φ h/\(∃o,h.get? a=some o)/\∀h1 h2:Heap,φ h1->(∀o,h1.get? a=some o->h2.get? a=some o)->φ h2
def ff(H:Hp)(h:Heap):Prop:=∀a o,H a=some o->br P w H h a o
end
section
variable{P:Program}{w:World}{H H':Hp}{h h':Heap}{a:Addr}{o:HO}
theorem br.lt(x:br P w H h a o):a<h.objs.size:=by
 cases o with
  |lst xs=>obtain⟨_,_,_,_,e⟩:=x;exact zQ05 e
  |tup xs=>obtain⟨_,_,_,p⟩:=x;exact p.lt
  |dK aL=>obtain⟨_,_,_,_,o,_,_,e,_⟩:=x;exact zQ05 e
  |dT aL=>obtain⟨_,_,_,_,o,_,_,e,_⟩:=x;exact zQ05 e
  |set S n=>obtain⟨o,_,_,_,e,_⟩:=x;exact zQ05 e
  |ins C dx fs=>obtain⟨_,_,_,e,_⟩:=x;exact zQ05 e
  |own y=>obtain⟨_,e⟩:=x;exact zQ05 e
  |xd fs=>obtain⟨_,⟨_,_,_,e,_⟩,_⟩:=x;exact zQ05 e
  |Fq lo hi=>obtain⟨_,_,_,e⟩:=x;exact zQ05 e
  |rT ob u=>obtain⟨e,_⟩:=x;exact zQ05 e
  |u3 ps=>cases ps with|tab q ln cl=>rcases x with e|⟨c,e,_⟩<;>exact zQ05 e|code q=>obtain⟨c,o,vs,t,b,d,_⟩:=x;cases b;exact zQ05 d
  |met f y=>exact zQ05 (show h.get? a=some _ from x)
  |ext φ=>obtain⟨_,⟨_,e⟩,_⟩:=x;exact zQ05 e
theorem Paired.Dn{e g:Type}{F G:e->g->Prop}:∀{c:List e}{d:List g},Paired F c d->(∀a b,F a b->G a b)->Paired G c d|_,_, .nil,_=> .nil|_,_, .cons r t,f=> .cons (f _ _ r) (Paired.Dn t f)
noncomputable def Fix:HO->Prop| .tup _=>True| .u3 _=>True|_=>False
noncomputable abbrev Eb:={u:HO//Fix u}
theorem br.nj(x:br P w H h a o)(k:∀b u,(b=a\/H b=some (.own a))->h.get? b=some u->h'.get? b=some u)(ho:∀b,H b=some (.own a)->H' b=some (.own a))(ht:∀(b:Addr)(u:Eb),H b=some u.1->H' b=some u.1):br P w H' h' a o:=by
 induction o with
  |lst xs=>obtain⟨z,i,n,r,e⟩:=x;exact⟨z,i,n,r,k _ _ (.inl rfl) e⟩
  |tup xs=>obtain⟨z,i,r,ob,e,c⟩:=x;exact⟨z,i,r,ob,k _ _ (.inl rfl) e,c⟩
  |dK aL=>obtain⟨z,y,vs,r,ob,es,ep,e,c⟩:=x;exact⟨z,y,vs,r,ob,es,ep,k _ _ (.inl rfl) e,c⟩
  |dT aL=>obtain⟨z,y,xs,r,ob,es,ep,e,c⟩:=x;exact⟨z,y,xs,Paired.Dn r λp q z=>⟨z.1,ht _ ⟨.tup _,trivial⟩ z.2.1,z.2.2⟩,ob,es,ep,k _ _ (.inl rfl) e,c⟩
  |set S n=>obtain⟨ob,es,ep,t,e,c⟩:=x;exact⟨ob,es,ep,t,k _ _ (.inl rfl) e,c⟩
  |ins C dx fs=>obtain⟨d,z,ne,e,mA,⟨od,es,ep,g,c⟩,r⟩:=x;exact⟨ho _ d,z,ne,k _ _ (.inl rfl) e,mA,⟨od,es,ep,k _ _ (.inr d) g,c⟩,r⟩
  |own y=>obtain⟨ob,e⟩:=x;exact⟨ob,k _ _ (.inl rfl) e⟩
  |xd fs=>obtain⟨mA,⟨od,es,ep,e,c⟩,r⟩:=x;exact⟨mA,⟨od,es,ep,k _ _ (.inl rfl) e,c⟩,r⟩
  |Fq lo hi=>obtain⟨t,u,v,e⟩:=x;exact⟨t,u,v,k _ _ (.inl rfl) e⟩
  |rT ob u m=>obtain⟨e,q⟩:=x;exact⟨k _ _ (.inl rfl) e,m q⟩
  |u3 ps=>
   cases ps with
    |tab q ln cl=>
     rcases x with e|⟨c,e,r⟩;·exact .inl (k a _ (.inl rfl) e)
     ·exact .inr ⟨c,k a _ (.inl rfl) e,ht c ⟨.u3 (.code q),trivial⟩ r⟩
    |code q=>obtain⟨c,o,vs,t,j,g,l⟩:=x;cases j;exact⟨_,o,vs,t,rfl,k a _ (.inl rfl) g,l⟩
  |met f y=>have e:h.get? a=some (PySem.W.methodObj (.ref f) (.ref y)):=x;show h'.get? a=some (PySem.W.methodObj (.ref f) (.ref y));exact k a _ (.inl rfl) e
  |ext φ=>obtain⟨p,⟨o,e⟩,st⟩:=x;exact⟨st _ _ p λo q=>k _ _ (.inl rfl) q,⟨o,k _ _ (.inl rfl) e⟩,st⟩
theorem ff.lt(x:ff P w H h)(e:H a=some o):a<h.objs.size:=(x a o e).lt
theorem ff.fresh(x:ff P w H h)(e:h.objs.size<=a):H a=none:=by cases q:H a with|none=>rfl|some u=>exact absurd (dk (x.lt q) e) (Nat.lt_irrefl _)
theorem ff.kept(x:ff P w H h)(k:∀b u,h.get? b=some u->h'.get? b=some u):ff P w H h':=λa o e=>(x a o e).nj (λb u _ q=>k b u q) (λ_ q=>q) λ_ _ q=>q
theorem ff.laid(x:ff P w H h)(k:∀b u,h.get? b=some u->h'.get? b=some u)(d:h.objs.size<=a)(new:br P w (upd H a o) h' a o):ff P w (upd H a o) h':=λb u e=>by
 have hn:=x.fresh d;by_cases hb:b=a;·subst hb;rw[ai]at e;cases e;exact new
 ·rw[aG hb]at e;exact(x b u e).nj (λc v _ q=>k c v q) (λc q=>by rw[aG (aB q hn)];exact q) λc xs q=>by rw[aG (aB q hn)];exact q
end
def Rd(H:Hp)(a:Addr)(u:HO):Prop:=H a=some u\/∃o,H a=some (.rT o u)
theorem Rd.ok{P:Program}{w:World}{H:Hp}{h:Heap}{a:Addr}{u:HO}(r:Rd H a u)(x:ff P w H h):br P w H h a u:=by
 rcases r with r|⟨o,r⟩;·exact x a u r
 ·obtain⟨_,q⟩:=x a _ r;exact q
noncomputable def B_:Option HO->Prop|some (.lst _)=>True|some (.dK _)=>True|some (.dT _)=>True|some (.set _ _)=>True|some (.ins _ _ _)=>True|some (.ext _)=>True|_=>False
section
variable{P:Program}{w:World}{H:Hp}{h h':Heap}{x e:Addr}{o':HO}
theorem ff.write(ok:ff P w H h)(d:B_ (H x))(he:e=x\/H e=some (.own x))(k:∀b u,b≠e->h.get? b=some u->h'.get? b=some u)(j:∃u,h'.get? e=some u)(new:br P w (upd H x o') h' x o'):ff P w (upd H x o') h':=λb u q=>by
 have g:∀c y,H c=some (.own y)->c≠x:=λc y r z=>by subst z;rw[r]at d;exact d
 have l:∀(c:Addr)(u:Eb),H c=some u.1->c≠x:=λc⟨u,f⟩r z=>by subst z;rw[show H c=some u from r]at d;cases u<;>first|exact d|exact f
 by_cases hb:b=x;·subst hb;rw[ai]at q;cases q;exact new
 ·rw[aG hb]at q;by_cases a:b=e
  ·have i:H b=some (.own x):=by
    rcases he with z|z;·exact absurd (a.trans z) hb
    ·rw[a];exact z
   rw[q]at i;cases i;obtain⟨v,hv⟩:=j;exact⟨v,by rw[a];exact hv⟩
  ·refine(ok b u q).nj (λc v hc r=>k c v ?_ r) (λc r=>by rw[aG (g c b r)];exact r) λc xs r=>by rw[aG (l c xs r)];exact r
   rcases hc with rfl|hc;·exact a
   ·rintro rfl;rcases he with z|z;·exact g c b hc z
    ·rw[hc]at z;cases z;exact hb rfl
end
structure Un(fs ex:List Addr)(H H':Hp)(h h':Heap):Prop where
 keep:∀b o,h.get? b=some o->H b=none->b∉fs->b∉ex->h'.get? b=some o
 slot:∀b o,h.get? b=some o->H b=none->b∈fs->b∉ex->∃sl,h'.get? b=some {o with slots:=sl}
 free:∀b o,h.get? b=some o->H b=none->b∉ex->H' b=none
 there:∀b o,h.get? b=some o->b∉ex->∃o',h'.get? b=some o'
 kF:∀b xs,H b=some (.tup xs)->H' b=some (.tup xs)
 jP:∀b o u,H b=some (.rT o u)->H' b=some (.rT o u)
 k6:∀b ps,H b=some (.u3 ps)->H' b=some (.u3 ps)
section
variable{fs Ke ex Mj:List Addr}{H H1 H2:Hp}{h h1 h2 h':Heap}{a x e:Addr}{o:HO}
theorem Un.any(u:Un fs ex H H1 h h1){b:Addr}{ob:Obj}(q:h.get? b=some ob)(n:H b=none)(c:b∉ex):∃sl,h1.get? b=some {ob with slots:=sl}:=by
 by_cases hb:b∈fs;·exact u.slot b ob q n hb c
 ·exact⟨ob.slots,u.keep b ob q n hb c⟩
theorem Un.kept(k:∀b u,h.get? b=some u->h'.get? b=some u):Un fs ex H H h h':=⟨λb ob q _ _ _=>k b ob q,λb ob q _ _ _=>⟨ob.slots,k b ob q⟩,λ_ _ _ n _=>n,λb ob q _=>⟨ob,k b ob q⟩,λ_ _ q=>q,λ_ _ _ q=>q,λ_ ps q=>(by rw[q])⟩
theorem Un.refl:Un fs ex H H h h:=Un.kept λ_ _ q=>q
theorem Un.laid(k:∀b u,h.get? b=some u->h'.get? b=some u)(c:h.objs.size<=a)(hn:H a=none):Un fs ex H (upd H a o) h h' where
 keep:=λb u q _ _ _=>k b u q;slot:=λb u q _ _ _=>⟨u.slots,k b u q⟩;free:=λb u q n _=>by rw[aG (zQ15 (dk (zQ05 q) c))];exact n
 there:=λb u q _=>⟨u,k b u q⟩;kF:=λb xs q=>by rw[aG (aB q hn)];exact q
 jP:=λb u xs q=>by rw[aG (aB q hn)];exact q
 k6:=λb ps q=>(by rw[aG (aB q hn),q])
theorem Un.write(c:B_ (H x))(he:e=x\/H e=some (.own x))(k:∀b u,b≠e->h.get? b=some u->h'.get? b=some u)(g:∃u,h'.get? e=some u):Un fs ex H (upd H x o) h h':=by
 have f:∀b,H b=none->b≠x:=λb n z=>by subst z;rw[n]at c;exact c
 have hb:∀b,H b=none->b≠e:=λb n z=>by
  subst z;rcases he with r|r;·exact f b n r
  ·rw[n]at r;cases r
 have hm:∀b u,H b=some u->¬B_ (some u)->b≠x:=λb u q i z=>by subst z;rw[q]at c;exact i c
 refine⟨λb u q n _ _=>k b u (hb b n) q,λb u q n _ _=>⟨u.slots,k b u (hb b n) q⟩,λb u q n _=>by rw[aG (f b n)];exact n,λb u q _=>?_,λb xs q=>by rw[aG (hm b _ q λz=>z)];exact q,λb u xs q=>by rw[aG (hm b _ q λz=>z)];exact q,λb ps q=>(by rw[aG (hm b _ q λz=>z),q])⟩;by_cases d:b=e;·subst d;exact g
 ·exact⟨u,k b u d q⟩
end
noncomputable def EE(h:Heap)(H:Hp):List Addr:=(List.range h.objs.size).filter λa=>(H a).isSome
noncomputable def i5(h:Heap)(H:Hp):Heap:=PySem.W.hideAll h (EE h H)
theorem j6(h:Heap)(H:Hp):(i5 h H).objs.size=h.objs.size:=PySem.W.hideAll_size _ _
theorem mL{h:Heap}{H:Hp}{b:Addr}{o:Obj}(e:h.get? b=some o)(n:H b=none):(i5 h H).get? b=some o:=PySem.W.hideAll_get _ e λhm=>by have q:(H b).isSome=true:=(List.mem_filter.mp hm).2;rw[n]at q;simp at q
theorem qq{h:Heap}{H:Hp}{b:Addr}{o:Obj}(e:(i5 h H).get? b=some o):h.get? b=some o/\H b=none:=by have a:h.get? b=some o:=PySem.W.of_hideAll (EE h H) e;refine⟨a,?_⟩;cases q:H b with|none=>rfl|some x=>have hm:b∈EE h H:=List.mem_filter.mpr ⟨List.mem_range.mpr (zQ05 a),by simp[q]⟩;have z:(i5 h H).get? b=none:=PySem.W.hideAll_none (EE h H) hm;rw[z]at e;cases e
noncomputable def wz(g h:Heap)(L:Addr):List (Addr×Obj):=(List.range h.objs.size).filterMap λa=>if a=L\/(g.get? a).isSome=true then none else(h.get? a).map λo=>(a,o)
noncomputable def rest(g h:Heap)(L d:Addr):List (Addr×Obj):=(wz g h L).filter λp=>decide (p.1≠d)
def Ar(mg:Str->Option Value)(h:Heap):Prop:=∃bm ob,mg "__builtins__"=some (.ref bm)/\bm≠builtinsNs/\h.get? bm=some ob/\ob.cls= .type "module"/\ob.dict=some builtinsNs/\ob.data= .plain
theorem Ar.keeps{mg:Str->Option Value}{h h':Heap}(x:Ar mg h)(k:∀b o,h.get? b=some o->h'.get? b=some o):Ar mg h':=let⟨bm,ob,a,b,c,d⟩:=x;⟨bm,ob,a,b,k _ _ c,d⟩
structure Mod(K:PySem.W.Frag)(mg:Str->Option Value)(base:Heap):Prop where
 Dk:K.In base
 glob:base.Ns mainGlobals mg
 blt:∃mb,base.Ns builtinsNs mb/\∀x:Str,x≠"__name__"->mb x=bootBuiltins x
 nolimit:base.NoLimit
 bm:Ar mg base
structure Cx where
 prog:Program
 w:World
 K:PySem.W.Frag
 mg:Str->Option Value
 base:Heap
 A:Around
 N:List Str
 cc:Shared
 H₀:Hp
 env:Env
 outer:List Env
 stack:List Env
 ex:List Addr
 fn:Str->Bool
 calm:Bool
 pn:List (Addr×Obj)
 xe:Value->Shared->Prop
noncomputable def mE(l:List Env):List Addr:=l.filterMap (·.frame)
noncomputable abbrev Cx.fs(X:Cx):List Addr:=mE X.outer
def Ff(sc:Scope)(x:Str):Prop:=sc.names.lookup x=some .local\/sc.names.lookup x=some .cell\/sc.names.lookup x=some .free
def Loc(sc:Scope)(x:Str):Prop:=sc.names.lookup x=some .local\/sc.names.lookup x=some .cell
noncomputable def BK(sc:Scope)(x:Str):Bool:=match sc.names.lookup x with|some .local=>true|some .cell=>true|_=>false
theorem dH{sc:Scope}{x:Str}(h:BK sc x=true):Loc sc x:=by
 unfold BK at h;split at h;·exact Or.inl (by assumption)
 ·exact Or.inr (by assumption)
 ·cases h
noncomputable def Look(env:Env)(h:Heap)(m:Str->Option Value)(x:Str)(u:Value):Prop:=(env.kindOf x=some .local/\m x=some u)\/((env.kindOf x=some .cell\/env.kindOf x=some .free)/\∃c,env.cells.lookup x=some c/\h.IsCell c (some u))
structure Cx.Ok(X:Cx):Prop where
 mod:Mod X.K X.mg X.base
 kind:X.env.scope.kind= .function
 glob:X.env.globals=mainGlobals
 blt:X.env.builtins=builtinsNs
 above:X.cc.heap.objs.size<=X.env.locals
 inj:∀x y c,X.env.cells.lookup x=some c->X.env.cells.lookup y=some c->x=y
 has:∀x,(X.env.kindOf x=some .cell\/X.env.kindOf x=some .free)->∃c,X.env.cells.lookup x=some c
 DT:∀x c,X.fn x=true->X.env.cells.lookup x=some c->X.cc.heap.objs.size<=c
 hd:X.calm=true->Ju X.base X.pn X.A
 frames:X.A.frames=some X.stack
 EL:X.stack=X.outer\/(X.stack=X.env::X.outer/\X.env.frame=some X.env.locals)
 ET:∀b∈X.ex,b≠X.env.locals/\∀x c,X.env.cells.lookup x=some c->c≠b
 bs:∀b o,X.base.get? b=some o->X.cc.heap.get? b=some o/\X.H₀ b=none
 vD:X.base.objs.size<=X.cc.heap.objs.size
 oM:∀b o,X.base.get? b=some o->b∉X.ex
 sV:∀b∈X.ex,b∉X.fs
 i8:X.cc.heap.FunFrames X.base X.outer
 Ba:∀b∈X.fs,X.H₀ b=none
structure Inv(X:Cx)(pins:List (Addr×Obj))(σ:List (Option V))(H:Hp)(s:Shared):Prop where
 ok:X.Ok
 os:s.os=X.cc.os
 bare:AllBare s.gens
 base:Un X.fs X.ex X.H₀ H X.cc.heap s.heap
 loc:∃m,s.heap.Ns X.env.locals m/\∀(i:Nat)(x:Str)(v:V),X.N[i]?=some x->σ[i]?=some (some v)->Ff X.env.scope x->∃u,RelV v u/\Look X.env s.heap m x u
 cell:∀x c,X.env.cells.lookup x=some c->∃v,s.heap.IsCell c v
 free:H X.env.locals=none
 dY:∀x c,X.env.cells.lookup x=some c->H c=none
 pin:∀p∈X.pn++pins,s.heap.get? p.1=some p.2/\H p.1=none/\p.1≠X.env.locals/\p.1∉X.fs/\∀v,p.2.data≠ .cell v
 bD:ff X.prog X.w H s.heap
 len:σ.length=X.N.length
section
variable{X:Cx}{pins:List (Addr×Obj)}{σ:List (Option V)}{H H':Hp}{s:Shared}{h':Heap}
theorem Cx.Ok.BC(ok:X.Ok){b:Addr}{o:Obj}(e:X.base.get? b=some o):b∉X.fs:=λhb=>by have :=(ok.i8.mem hb).1;rw[e]at this;cases this
theorem Inv.bs(I:Inv X pins σ H s):∀b o,X.base.get? b=some o->s.heap.get? b=some o/\H b=none:=λb o e=>⟨I.base.keep b o (I.ok.bs b o e).1 (I.ok.bs b o e).2 (I.ok.BC e) (I.ok.oM b o e),I.base.free b o (I.ok.bs b o e).1 (I.ok.bs b o e).2 (I.ok.oM b o e)⟩
theorem Inv.bk(I:Inv X pins σ H s):∀b o,X.base.get? b=some o->s.heap.get? b=some o:=λb o e=>(I.bs b o e).1
theorem Inv.mod(I:Inv X pins σ H s):Mod X.K X.mg X.base:=I.ok.mod
theorem Inv.hb(I:Inv X pins σ H s)(hc:X.calm=true):HB s.heap X.A:=by
 rcases I.ok.hd hc with h|⟨a,oe,vs,b,c,d⟩;·exact .inl h
 ·exact .inr ⟨a,oe,vs,b,c.elim (I.bk a oe) λm=>(I.pin (a,oe) (kY _ m)).1,d⟩
theorem Inv.Br(I:Inv X pins σ H s)(hc:X.calm=true){it:Addr}(f:it∈X.ex\/X.cc.heap.objs.size<=it)(g:∀p∈X.pn++pins,p.1≠it):∀a,X.A.handled=some (.ref a)->a≠it:=λa d z=>by
 subst z;rcases I.ok.hd hc with h|⟨b,oe,vs,e,c,i⟩;·rw[h]at d;cases d
 ·rw[e]at d;cases d;rcases c with c|c
  ·rcases f with z|z;·exact I.ok.oM _ _ c z
   ·exact absurd (dk (zQ05 c) I.ok.vD) (Nat.not_lt.mpr z)
  ·exact g _ (kY _ c) rfl
theorem Inv.j_(I:Inv X pins σ H s):X.K.In s.heap:=I.ok.mod.Dk.keeps I.bk
theorem Inv.fr(I:Inv X pins σ H s):∃m,Fr X.base X.env.locals s.heap m:=let⟨m,hn,_⟩:=I.loc;⟨m,hn,I.bk,bM I.ok.vD I.ok.above⟩
theorem Inv.lt(I:Inv X pins σ H s):X.env.locals<s.heap.objs.size:=let⟨_,hn,_⟩:=I.loc;hn.lt
theorem Inv.sz(I:Inv X pins σ H s):X.cc.heap.objs.size<=s.heap.objs.size:=bM I.ok.above (Nat.le_of_lt I.lt)
theorem Inv.FT(I:Inv X pins σ H s){a:Addr}(h:s.heap.objs.size<=a):a∉X.fs:=λhb=>by obtain⟨_,o,ho,_⟩:=I.ok.i8.mem hb;exact absurd (dk (zQ05 ho) (bM I.sz h)) (Nat.lt_irrefl _)
theorem Inv.AO(I:Inv X pins σ H s):∀x c,X.env.cells.lookup x=some c->c≠X.env.locals:=λx c e z=>by obtain⟨v,o,ho,hd⟩:=I.cell x c e;obtain⟨m,⟨o',es,ep,b,a,_⟩,_⟩:=I.loc;rw[z,b]at ho;cases ho;rw[a]at hd;cases hd
theorem Inv.i8(I:Inv X pins σ H s):s.heap.FunFrames X.base X.outer:=by
 have all:∀(l:List Env),(∀b∈mE l,b∈X.fs)->X.cc.heap.FunFrames X.base l->s.heap.FunFrames X.base l:=by intro l;induction l with|nil=>intro _ _;trivial|cons env r g=>intro d hl;obtain⟨f,⟨L,o,c,hn,ho,hd⟩,hr⟩:=hl;have a:L∈X.fs:=d L (by unfold mE;rw[lQ,c];exact dj);obtain⟨sl,e⟩:=I.base.slot L o ho (I.ok.Ba L a) a λz=>I.ok.sV L z a;exact⟨f,⟨L,_,c,hn,e,hd⟩,g (λb hb=>d b (by unfold mE;rw[lQ,c];exact d9 _ hb)) hr⟩
 exact all X.outer (λ_ hb=>hb) I.ok.i8
theorem Inv.stack(I:Inv X pins σ H s):s.heap.FunFrames X.base X.stack:=by
 rcases I.ok.EL with e|⟨e,a⟩;·rw[e];exact I.i8
 ·rw[e];obtain⟨m,hn,_⟩:=I.loc;refine .cons (by rw[I.ok.kind];decide) a hn ?_ I.i8;exact Heap.get?_none_of_le (bM I.ok.vD I.ok.above)
theorem Inv.gG(I:Inv X pins σ H s):∀b∈mE X.stack,b∈X.env.locals::X.fs:=λb hb=>by
 rcases I.ok.EL with e|⟨e,a⟩;·rw[e]at hb;exact d9 _ hb
 ·rw[e]at hb;unfold mE at hb;rw[lQ,a]at hb;exact hb
theorem Inv.rY(I:Inv X pins σ H s):∀b∈mE X.stack,H b=none:=λb hb=>by
 rcases List.mem_cons.mp (I.gG b hb)with e|hb;·rw[e];exact I.free
 ·obtain⟨_,o,ho,_⟩:=I.ok.i8.mem hb;exact I.base.free b o ho (I.ok.Ba b hb) λz=>I.ok.sV b z hb
theorem Inv.step{g':Array GenState}{t':Nat}{d':Drawn}{ch:List Addr}(I:Inv X pins σ H s)(g:∀b∈ch,(b∈X.ex\/X.cc.heap.objs.size<=b)/\b≠X.env.locals/\(∀x c,X.env.cells.lookup x=some c->c≠b)/\∀p∈X.pn++pins,p.1≠b)(keep:∀b o,b≠X.env.locals->b∉X.fs->b∉ch->s.heap.get? b=some o->H b=none->h'.get? b=some o)(slot:∀b o,b≠X.env.locals->b∈X.fs->b∉ch->s.heap.get? b=some o->H b=none->∃sl,h'.get? b=some {o with slots:=sl})(free:∀b o,b∉ch->s.heap.get? b=some o->H b=none->H' b=none)(there:∀b o,b∉ch->s.heap.get? b=some o->∃o',h'.get? b=some o')(kF:∀b xs,H b=some (.tup xs)->H' b=some (.tup xs))(jP:∀b o u,H b=some (.rT o u)->H' b=some (.rT o u))(k6:∀b ps,H b=some (.u3 ps)->H' b=some (.u3 ps))(ns:∀m,s.heap.Ns X.env.locals m->h'.Ns X.env.locals m)(bD:ff X.prog X.w H' h')(C:AllBare g'):Inv X pins σ H' {s with heap:=h',gens:=g',drawn:=d',toks:=t'}:=by
 have y:∀b o,X.cc.heap.get? b=some o->b≠X.env.locals:=λb o e=>zQ15 (dk (zQ05 e) I.ok.above);have j:∀b o,X.cc.heap.get? b=some o->b∉X.ex->b∉ch:=λb o e a hb=>by
  rcases(g b hb).1 with z|z;·exact a z
  ·exact absurd (dk (zQ05 e) z) (Nat.lt_irrefl _)
 have cellK:∀x c,X.env.cells.lookup x=some c->∀v,s.heap.IsCell c v->h'.IsCell c v:=λx c e v⟨o,ho,hd⟩=>by
  have h:c∉ch:=λz=>(g c z).2.2.1 x c e rfl;by_cases hc:c∈X.fs;·obtain⟨sl,q⟩:=slot c o (I.AO x c e) hc h ho (I.dY x c e);exact⟨_,q,hd⟩
  ·exact⟨o,keep c o (I.AO x c e) hc h ho (I.dY x c e),hd⟩
 refine⟨I.ok,I.os,C,⟨λb o e n hb a=>?_,λb o e n hb a=>?_,λb o e n a=>?_,λb o e a=>?_,λb xs e=>kF b xs (I.base.kF b xs e),λb o xs e=>jP b o xs (I.base.jP b o xs e),λb ps e=>?_⟩,?_,λx c e=>?_,?_,λx c e=>?_,λp w=>?_,bD,I.len⟩;·exact keep b o (y b o e) hb (j b o e a) (I.base.keep b o e n hb a) (I.base.free b o e n a)
 ·obtain⟨sl,f⟩:=I.base.slot b o e n hb a;obtain⟨D,t⟩:=slot b _ (y b o e) hb (j b o e a) f (I.base.free b o e n a);exact⟨D,t⟩
 ·obtain⟨o',f⟩:=I.base.there b o e a;exact free b o' (j b o e a) f (I.base.free b o e n a)
 ·obtain⟨o',f⟩:=I.base.there b o e a;exact there b o' (j b o e a) f
 ·exact k6 b ps (I.base.k6 b ps e)
 ·obtain⟨m,hn,hl⟩:=I.loc;refine⟨m,ns m hn,λi x v f t B=>?_⟩;obtain⟨u,r,l⟩:=hl i x v f t B;refine⟨u,r,?_⟩;rcases l with l|⟨k,c,e,z⟩;·exact .inl l
  ·exact .inr ⟨k,c,e,cellK x c e _ z⟩
 ·obtain⟨v,z⟩:=I.cell x c e;exact⟨v,cellK x c e v z⟩
 ·obtain⟨m,⟨o,_,_,ho,_⟩,_⟩:=I.loc;exact free _ o (λz=>(g _ z).2.1 rfl) ho I.free
 ·obtain⟨v,o,ho,hd⟩:=I.cell x c e;exact free c o (λz=>(g c z).2.2.1 x c e rfl) ho (I.dY x c e)
 ·obtain⟨e,n,ne,A,d⟩:=I.pin p w;have h:p.1∉ch:=λz=>(g p.1 z).2.2.2 p w rfl;exact⟨keep p.1 p.2 ne A h e n,free p.1 p.2 h e n,ne,A,d⟩
theorem Inv.un{t':Nat}(I:Inv X pins σ H s)(u:Un X.fs [] H H' s.heap h')(bD:ff X.prog X.w H' h'):Inv X pins σ H' {s with heap:=h',toks:=t'}:=by obtain⟨m,⟨o,es,ep,ho,r⟩,_⟩:=id I.loc;obtain⟨sl,f⟩:=u.any ho I.free (by simp);exact I.step (g':=s.gens) (d':=s.drawn) (ch:=[]) (λ_ z=>nomatch z) (λb o _ hb _ e n=>u.keep b o e n hb (by simp)) (λb o _ hb _ e n=>u.slot b o e n hb (by simp)) (λb o _ e n=>u.free b o e n (by simp)) (λb o _ e=>u.there b o e (by simp)) u.kF u.jP u.k6 (λh hm=>by obtain⟨o',d,c,a,g⟩:=hm;rw[ho]at a;cases a;exact⟨_,d,c,f,g⟩) bD I.bare
theorem Inv.call{g':Array GenState}{t':Nat}{d':Drawn}{ch:List Addr}(I:Inv X pins σ H s)(u:Un (mE X.stack) ch H H' s.heap h')(bD:ff X.prog X.w H' h')(i:AllBare g')(d:∀b∈ch,(b∈X.ex\/X.cc.heap.objs.size<=b)/\b≠X.env.locals/\(∀x c,X.env.cells.lookup x=some c->c≠b)/\∀p∈X.pn++pins,p.1≠b):Inv X pins σ H' {s with heap:=h',gens:=g',drawn:=d',toks:=t'}:=by obtain⟨m,⟨o,es,ep,ho,r⟩,_⟩:=id I.loc;obtain⟨sl,a⟩:=u.any ho I.free λz=>(d _ z).2.1 rfl;exact I.step (ch:=ch) d (λb o a hb hc e n=>u.keep b o e n (λz=>(List.mem_cons.mp (I.gG b z)).elim a hb) hc) (λb o _ _ hc e n=>u.any e n hc) (λb o hc e n=>u.free b o e n hc) (λb o hc e=>u.there b o e hc) u.kF u.jP u.k6 (λk hm=>by obtain⟨o',h,g,f,j⟩:=hm;rw[ho]at f;cases f;exact⟨_,h,g,a,j⟩) bD i
theorem Inv.turned{t':Nat}{it:Addr}(I:Inv X pins σ H s)(k:∀b o,b≠it->s.heap.get? b=some o->h'.get? b=some o)(hn:H it=none)(a:it≠X.env.locals)(h1:it∈X.ex\/X.cc.heap.objs.size<=it)(h2:∀x c,X.env.cells.lookup x=some c->c≠it)(h3:∀p∈X.pn++pins,p.1≠it):Inv X pins σ H {s with heap:=h',toks:=t'}:=by
 have d:∀b u,H b=some u->b≠it:=λb u e z=>by rw[z,hn]at e;cases e
 refine I.step (g':=s.gens) (d':=s.drawn) (ch:=[it]) (λb hb=>?_) (λb o _ _ hc e _=>k b o (λz=>hc (by simp[z])) e) (λb o _ _ hc e _=>⟨o.slots,k b o (λz=>hc (by simp[z])) e⟩) (λ_ _ _ _ n=>n) (λb o hc e=>⟨o,k b o (λz=>hc (by simp[z])) e⟩) (λ_ _ e=>e) (λ_ _ _ e=>e) (λb ps e=>(by rw[e])) (λm hm=>?_) (λb u e=>?_) I.bare
 ·have e:b=it:=by simpa using hb
  subst e;exact⟨h1,a,h2,h3⟩
 ·obtain⟨o,es,ep,ho,r⟩:=hm;exact⟨o,es,ep,k _ o (Ne.symm a) ho,r⟩
 ·refine(I.bD b u e).nj (λc v hc q=>k c v ?_ q) (λ_ q=>q) λ_ _ q=>q;rcases hc with z|z;·rw[z];exact d b u e
  ·exact d c _ z
theorem Inv.tok(I:Inv X pins σ H s)(t:Nat):Inv X pins σ H {s with toks:=t}:=I.un (h':=s.heap) (t':=t) Un.refl I.bD
theorem Inv.kept{t':Nat}(I:Inv X pins σ H s)(k:∀b u,s.heap.get? b=some u->h'.get? b=some u):Inv X pins σ H {s with heap:=h',toks:=t'}:=I.un (Un.kept k) (I.bD.kept k)
theorem Inv.laid{a:Addr}{o:HO}{t':Nat}(I:Inv X pins σ H s)(k:∀b u,s.heap.get? b=some u->h'.get? b=some u)(c:s.heap.objs.size<=a)(new:br X.prog X.w (upd H a o) h' a o):Inv X pins σ (upd H a o) {s with heap:=h',toks:=t'}:=I.un (Un.laid k c (I.bD.fresh c)) (I.bD.laid k c new)
theorem Inv.write{x e:Addr}{o:HO}{t':Nat}(I:Inv X pins σ H s)(c:B_ (H x))(he:e=x\/H e=some (.own x))(k:∀b u,b≠e->s.heap.get? b=some u->h'.get? b=some u)(a:∃u,h'.get? e=some u)(new:br X.prog X.w (upd H x o) h' x o):Inv X pins σ (upd H x o) {s with heap:=h',toks:=t'}:=I.un (Un.write c he k a) (I.bD.write c he k a new)
theorem Inv.weak{a:List (Option V)}(I:Inv X pins σ H s)(hl:a.length=σ.length)(w:∀(i:Nat)v,a[i]?=some (some v)->σ[i]?=some (some v)):Inv X pins a H s:=⟨I.ok,I.os,I.bare,I.base,let⟨m,hn,e⟩:=I.loc;⟨m,hn,λi x v b c d=>e i x v b (w i v c) d⟩,I.cell,I.free,I.dY,I.pin,I.bD,hl.trans I.len⟩
theorem Inv.qE{a:List (Addr×Obj)}(I:Inv X pins σ H s)(h:∀p∈a,s.heap.get? p.1=some p.2/\H p.1=none/\p.1≠X.env.locals/\p.1∉X.fs/\∀v,p.2.data≠ .cell v):Inv X a σ H s:=⟨I.ok,I.os,I.bare,I.base,I.loc,I.cell,I.free,I.dY,λp b=>(List.mem_append.mp b).elim (λz=>I.pin p (kY _ z)) (h p),I.bD,I.len⟩
theorem oj{N:List Str}(e:N.Nodup){i j:Nat}{x:Str}(a:N[i]?=some x)(b:N[j]?=some x):i=j:=by obtain⟨h1,c⟩:=List.getElem?_eq_some_iff.mp a;obtain⟨h2,d⟩:=List.getElem?_eq_some_iff.mp b;exact(List.getElem_inj e).mp (c.trans d.symm)
theorem ke{M:Model}{A:Around}{E:Value->Shared->Prop}{i:Nat}{x:Str}{v:V}{u:Value}{Q:Unit->Shared->Prop}(I:Inv X pins σ H s)(O:X.N.Nodup)(hi:X.N[i]?=some x)(l:Loc X.env.scope x)(r:RelV v u)(h:∀s',Inv X pins (σ.set i (some v)) H s'->(∃a,Heap.SameBut a s.heap s'.heap/\(a=X.env.locals\/X.env.cells.lookup x=some a))->Q () s')(Y:X.fn x=true\/X.env.scope.names.lookup x=some .local:=by first|exact .inl rfl|exact .inr rfl|assumption):wpAny M A (storeName X.env x u) Q E s:=by
 obtain⟨m,hn,hl⟩:=id I.loc;have W:(X.env.scope.kind== .class||(X.env.scope.kind== .module&&X.env.locals !=X.env.globals))=false:=by rw[I.ok.kind];rfl
 have T:i<σ.length:=by rw[I.len];exact(List.getElem?_eq_some_iff.mp hi).1
 have AO:=I.AO;have tracked:∀{a:Addr}{h':Heap},(∃o,s.heap.get? a=some o/\H a=none)->Heap.SameBut a s.heap h'->ff X.prog X.w H h':=λ{a h'}ha f b ob e=>by
  obtain⟨_,_,S⟩:=ha;refine(I.bD b ob e).nj (λc C hc q=>(f.2 c ?_).trans q) (λ_ q=>q) λ_ _ q=>q;rintro rfl;rcases hc with rfl|hc;·rw[S]at e;cases e
  ·rw[S]at hc;cases hc
 rcases l with w|w
 ·refine wpAny_storeName_local w hn (λh' hn' f=>?_) W;obtain⟨oL,_,_,Z,_⟩:=id hn;refine h _ ⟨I.ok,I.os,I.bare,⟨λb o e n hb l=>?_,λb o e n hb l=>?_,I.base.free,λb o e l=>?_,I.base.kF,I.base.jP,I.base.k6⟩,⟨_,hn',λj y N g t D=>?_⟩,λy c e=>?_,I.free,I.dY,λp G=>?_,tracked ⟨oL,Z,I.free⟩ f,by simpa using I.len⟩ ⟨_,f, .inl rfl⟩;·exact(f.2 b (zQ15 (dk (zQ05 e) I.ok.above))).trans (I.base.keep b o e n hb l)
  ·obtain⟨sl,g⟩:=I.base.slot b o e n hb l;exact⟨sl,(f.2 b (zQ15 (dk (zQ05 e) I.ok.above))).trans g⟩
  ·obtain⟨o',g⟩:=I.base.there b o e l;exact⟨o',(f.2 b (zQ15 (dk (zQ05 e) I.ok.above))).trans g⟩
  ·by_cases hj:j=i;·subst hj;rw[hi]at g;cases g;rw[List.getElem?_set_self T]at t;cases t;exact⟨u,r, .inl ⟨w,by simp⟩⟩
   ·rw[List.getElem?_set_ne (Ne.symm hj)]at t;obtain⟨L,K,q⟩:=hl j y N g t D;refine⟨L,K,?_⟩;rcases q with⟨k,e⟩|⟨k,c,e,z⟩;·refine .inl ⟨k,?_⟩;have :y≠x:=λe=>hj (oj O g (e▸hi));simp[this,e]
    ·exact .inr ⟨k,c,e,z.sameBut f (AO y c e)⟩
  ·obtain⟨C,z⟩:=I.cell y c e;exact⟨C,z.sameBut f (AO y c e)⟩
  ·obtain⟨e,n,ne,J,d⟩:=I.pin p G;exact⟨(f.2 p.1 ne).trans e,n,ne,J,d⟩
 ·have F:X.fn x=true:=by
   rcases Y with z|z;·exact z
   ·rw[z]at w;cases w
  obtain⟨c,hc⟩:=I.ok.has x (.inl w);obtain⟨C,z⟩:=I.cell x c hc;refine wpAny_storeName_cell I.ok.kind w hc z (λh' P f=>?_);obtain⟨oc,U,Fv⟩:=id z;refine h {s with heap:=h'} ⟨I.ok,I.os,I.bare,⟨λb o e n hb l=>?_,λb o e n hb l=>?_,I.base.free,λb o e l=>?_,I.base.kF,I.base.jP,I.base.k6⟩,⟨m,hn.sameBut f (Ne.symm (AO x c hc)),λj y N g t D=>?_⟩,λy B e=>?_,I.free,I.dY,λp G=>?_,tracked ⟨oc,U,I.dY x c hc⟩ f,by simpa using I.len⟩ ⟨c,f, .inr hc⟩;·exact(f.2 b (zQ15 (dk (zQ05 e) (I.ok.DT x c F hc)))).trans (I.base.keep b o e n hb l)
  ·obtain⟨sl,g⟩:=I.base.slot b o e n hb l;exact⟨sl,(f.2 b (zQ15 (dk (zQ05 e) (I.ok.DT x c F hc)))).trans g⟩
  ·obtain⟨o',g⟩:=I.base.there b o e l;exact⟨o',(f.2 b (zQ15 (dk (zQ05 e) (I.ok.DT x c F hc)))).trans g⟩
  ·by_cases hj:j=i;·subst hj;rw[hi]at g;cases g;rw[List.getElem?_set_self T]at t;cases t;exact⟨u,r, .inr ⟨.inl w,c,hc,P⟩⟩
   ·rw[List.getElem?_set_ne (Ne.symm hj)]at t;obtain⟨L,K,q⟩:=hl j y N g t D;refine⟨L,K,?_⟩;rcases q with q|⟨k,B,e,z'⟩;·exact .inl q
    ·refine .inr ⟨k,B,e,z'.sameBut f ?_⟩;rintro rfl;exact hj (oj O g (I.ok.inj _ _ _ e hc▸hi))
  ·by_cases R:B=c;·subst R;exact⟨_,P⟩
   ·obtain⟨w2,z2⟩:=I.cell y B e;exact⟨w2,z2.sameBut f R⟩
  ·obtain⟨e,n,ne,J,d⟩:=I.pin p G;refine⟨(f.2 p.1 ?_).trans e,n,ne,J,d⟩;intro q;rw[q,U]at e;have q':oc=p.2:=Option.some.inj e;exact d C (by rw[<-q'];exact Fv)
theorem nI{M:Model}{A:Around}{E:Value->Shared->Prop}{i:Nat}{x:Str}{v:V}{u:Value}{Q:Unit->Shared->Prop}(I:Inv X pins σ H s)(b:X.N.Nodup)(hi:X.N[i]?=some x)(d:Loc X.env.scope x)(r:RelV v u)(h:∀s',Inv X pins (σ.set i (some v)) H s'->Q () s')(c:X.fn x=true\/X.env.scope.names.lookup x=some .local:=by first|exact .inl rfl|exact .inr rfl|assumption):wpAny M A (storeName X.env x u) Q E s:=ke I b hi d r (λs' a _=>h s' a) c
theorem Inv.ya{s':Shared}{ch:List Addr}(I:Inv X pins σ H s)(ho:s'.os=s.os)(u:Un (mE X.stack) ch H H' s.heap s'.heap)(bD:ff X.prog X.w H' s'.heap)(d:AllBare s'.gens)(a:∀b∈ch,(b∈X.ex\/X.cc.heap.objs.size<=b)/\b≠X.env.locals/\(∀x c,X.env.cells.lookup x=some c->c≠b)/\∀p∈X.pn++pins,p.1≠b):Inv X pins σ H' s':=by obtain⟨h',g',d',t',o'⟩:=s';have e:o'=s.os:=ho;subst e;exact I.call (g':=g') (t':=t') (d':=d') u bD d a
end
noncomputable abbrev XK:=Value->Option Addr->Hp->Prop
noncomputable abbrev St:=List (Option V)
noncomputable abbrev VK:=V->Hp->Prop
noncomputable abbrev TE:=St->Hp->VK->Prop
noncomputable abbrev TT:=St->Hp->(Bool->Hp->Prop)->Prop
noncomputable abbrev TA:=St->Hp->(List V->Hp->Prop)->Prop
structure Ends where
 nx:St->Hp->Prop
 rt:VK
 bk:St->Hp->Prop:=λ_ _=>False
 ct:St->Hp->Prop:=λ_ _=>False
noncomputable abbrev TS:=Ends->St->Hp->Prop
def EP(X:Cx)(pins:List (Addr×Obj))(σ:St)(Q:VK)(u:Value)(s':Shared):Prop:=∃v H',Inv X pins σ H' s'/\RelV v u/\Q v H'
def TP(X:Cx)(pins:List (Addr×Obj))(σ:St)(Q:Bool->Hp->Prop)(b:Bool)(s':Shared):Prop:=∃H',Inv X pins σ H' s'/\Q b H'
def AP(X:Cx)(pins:List (Addr×Obj))(σ:St)(Q:List V->Hp->Prop)(us:List Value)(s':Shared):Prop:=∃vs H',Inv X pins σ H' s'/\Vals vs us/\Q vs H'
noncomputable def SP(X:Cx)(pins:List (Addr×Obj))(D:Ends)(f:Flow)(s':Shared):Prop:=match f with| .next=>∃a H',Inv X pins a H' s'/\D.nx a H'| .brk=>∃a H',Inv X pins a H' s'/\D.bk a H'| .cont=>∃a H',Inv X pins a H' s'/\D.ct a H'| .ret u=>∃v a H',Inv X pins a H' s'/\RelV v u/\D.rt v H'
noncomputable def PE(X:Cx)(e:Expr)(t:TE):Prop:=∀(pins:List (Addr×Obj))(s:Shared)(σ:St)(H:Hp)(Q:VK),Inv X pins σ H s->t σ H Q->wpAny (model X.prog X.w) X.A (eval e X.env) (EP X pins σ Q) X.xe s
noncomputable def PT(X:Cx)(e:Expr)(t:TT):Prop:=∀(pins:List (Addr×Obj))(s:Shared)(σ:St)(H:Hp)(Q:Bool->Hp->Prop),Inv X pins σ H s->t σ H Q->wpAny (model X.prog X.w) X.A (isTrue e X.env (eval e X.env)) (TP X pins σ Q) X.xe s
noncomputable def PW(X:Cx)(e:Expr)(t:TT):Prop:=∀(whole:Sem Value)(pins:List (Addr×Obj))(s:Shared)(σ:St)(H:Hp)(Q:Bool->Hp->Prop),Inv X pins σ H s->t σ H Q->wpAny (model X.prog X.w) X.A (isTrue e X.env whole) (TP X pins σ Q) X.xe s
theorem PW.pt{X:Cx}{e:Expr}{t:TT}(h:PW X e t):PT X e t:=h _
noncomputable def PA(X:Cx)(es:List Expr)(t:TA):Prop:=∀(a:Pos)(pins:List (Addr×Obj))(s:Shared)(σ:St)(H:Hp)(Q:List V->Hp->Prop),Inv X pins σ H s->t σ H Q->wpAny (model X.prog X.w) X.A (spliced (backTo a (starEach es X.env))) (AP X pins σ Q) X.xe s
noncomputable def PS(X:Cx)(st:Stmt)(t:TS):Prop:=∀(pins:List (Addr×Obj))(s:Shared)(σ:St)(H:Hp)(D:Ends),Inv X pins σ H s->t D σ H->wpAny (model X.prog X.w) X.A (exec st X.env) (SP X pins D) X.xe s
noncomputable def jL(X:Cx)(st:List Stmt)(t:TS):Prop:=∀(pins:List (Addr×Obj))(s:Shared)(σ:St)(H:Hp)(D:Ends),Inv X pins σ H s->t D σ H->wpAny (model X.prog X.w) X.A (execs st X.env) (SP X pins D) X.xe s
theorem bp{c:Type}{t:Sem c}{Q b:c->Shared->Prop}{M:Model}{A:Around}{E:Value->Shared->Prop}{s:Shared}(h:wpAny M A t Q E s)(d:∀a s,Q a s->b a s):wpAny M A t b E s:=wpAny_mono h d λ_ _ x=>x
section
variable{X:Cx}
noncomputable def C5(i:Nat):TE:=λσ H Q=>∃v,σ[i]?=some (some v)/\Q v H
noncomputable def tC(v:V):TE:=λ_ H Q=>Q v H
theorem Ai{i:Nat}{x:Str}{g:Pos}(d:X.N[i]?=some x)(hv:Ff X.env.scope x)(hd:(x==("__debug__":Str))=false:=by decide)(f:(x==("__classdict__":Str))=false:=by decide):PE X (.Name x g) (C5 i):=by
 intro pins s σ H Q I h;obtain⟨v,e,h⟩:=h;obtain⟨m,hn,hl⟩:=I.loc;obtain⟨u,r,l⟩:=hl i x v d e hv;have fin:EP X pins σ Q u s:=⟨v,H,I,r,h⟩;rcases l with⟨a,hm⟩|⟨a,c,hc,b⟩;·exact wpAny_Name (wpAny_loadName_local I.ok.kind a hn hm fin) hd
 ·rcases a with a|a;·exact wpAny_Name (wpAny_loadName_cell I.ok.kind a hc b fin) hd
  ·exact wpAny_Name (wpAny_loadName_free I.ok.kind a hc b fin f) hd
theorem ae{i j a}:PE X (.Constant (.int i) j a) (tC (.int i)):=λ_ _ _ H _ I h=>wpAny_Constant_int ⟨.int i,H,I.tok _,⟨_,rfl⟩,h⟩
theorem CC{b j a}:PE X (.Constant (.bool b) j a) (tC (.bl b)):=λ_ _ _ H _ I h=>Constant_bool ⟨.bl b,H,I,rfl,h⟩
theorem AL{j a}:PE X (.Constant .none j a) (tC .bj):=λ_ _ _ H _ I h=>Constant_none ⟨.bj,H,I,rfl,h⟩
theorem ah{x j a}:PE X (.Constant (.str x) j a) (tC (.str x)):=λ_ _ _ H _ I h=>Calls.Constant_str ⟨.str x,H,I.tok _,⟨_,rfl⟩,h⟩
def Gl(X:Cx)(x:Str):Prop:=X.env.kindOf x=some .globalImplicit
theorem q0{E:Value->Shared->Prop}{pins:List (Addr×Obj)}{s:Shared}{σ:St}{H:Hp}{x:Str}{u:Value}{b:Pos}{Q:Value->Shared->Prop}(I:Inv X pins σ H s)(a:Gl X x)(hm:X.mg x=some u)(h:Q u s)(hd:(x==("__debug__":Str))=false:=by decide):wpAny (model X.prog X.w) X.A (eval (.Name x b) X.env) Q E s:=Calls.Name_function_global I.ok.kind a (Calls.loadGlobal_global (by rw[I.ok.glob];exact I.mod.glob.keeps I.bk) hm h) hd
theorem fk{E:Value->Shared->Prop}{pins:List (Addr×Obj)}{s:Shared}{σ:St}{H:Hp}{x:Str}{u:Value}{b:Pos}{Q:Value->Shared->Prop}(I:Inv X pins σ H s)(a:Gl X x)(hm:X.mg x=none)(hv:bootBuiltins x=some u)(h:Q u s)(hn:x≠"__name__":=by decide)(hd:(x==("__debug__":Str))=false:=by decide):wpAny (model X.prog X.w) X.A (eval (.Name x b) X.env) Q E s:=by obtain⟨mb,h1,h2⟩:=I.mod.blt;exact Calls.Name_function_global I.ok.kind a (Calls.loadGlobal_builtin (by rw[I.ok.glob];exact I.mod.glob.keeps I.bk) hm (by rw[I.ok.blt];exact h1.keeps I.bk) ((h2 x hn).trans hv) h) hd
theorem w8{x:Str}{v:V}{u:Value}{b:Pos}(a:Gl X x)(hm:X.mg x=some u)(r:RelV v u)(hd:(x==("__debug__":Str))=false:=by decide):PE X (.Name x b) (tC v):=λ_ _ _ H _ I h=>q0 I a hm ⟨v,H,I,r,h⟩ hd
theorem xU{x:Str}{v:V}{u:Value}{b:Pos}(a:Gl X x)(hm:X.mg x=none)(hv:bootBuiltins x=some u)(r:RelV v u)(hn:x≠"__name__":=by decide)(hd:(x==("__debug__":Str))=false:=by decide):PE X (.Name x b) (tC v):=λ_ _ _ H _ I h=>fk I a hm hv ⟨v,H,I,r,h⟩ hn hd
variable{a b:Expr}{ta tb:TE}{pos:Pos}
noncomputable def PC(X:Cx)(c:CmpOp)(a b:Expr)(t:TE):Prop:=∀(pins:List (Addr×Obj))(s:Shared)(σ:St)(H:Hp)(Q:VK),Inv X pins σ H s->t σ H Q->wpAny (model X.prog X.w) X.A (eval a X.env) (λv s₁=>wpAny (model X.prog X.w) X.A (eval b X.env) (λu s₂=>wpAny (model X.prog X.w) X.A (compareOp c v u) (EP X pins σ Q) X.xe s₂) X.xe s₁) X.xe s
noncomputable def tB(t:TE):TT:=λσ H Q=>t σ H λx d=>∃c,x= .bl c/\Q c d
theorem vf{e:CmpOp}{t:TE}(h:PC X e a b t)(h1:behindInMarks e b=false:=by first|exact k _ (by decide) (by decide)|rfl):PT X (.Compare a [e] [b] pos) (tB t):=by intro pins s σ H Q I hw;refine wpAny_isTrue_Compare1 (bp (h pins s σ H _ I hw) λv s1 h1=>bp h1 λu s2 h2=>bp h2 λc l j=>?_) h1;obtain⟨x,f,g,i,q1⟩:=j;obtain⟨d,rfl,q⟩:=q1;cases i;exact wpAny_truthy_bool ⟨f,g,q⟩
theorem pZ{e:Expr}{t:TE}(h:PE X e t)(he:∀whole,isTrue e X.env whole=(do let v<-whole;standAt e.pos;holding [v] (truthy v)):=by intro _;rfl):PT X e (tB t):=by intro pins s σ H Q I hw;refine isTrue_plain (bp (h pins s σ H _ I hw) λv s1 i=>?_) (he _);obtain⟨x,c,f,g,q1⟩:=i;obtain⟨d,rfl,q⟩:=q1;cases g;exact wpAny_truthy_bool ⟨c,f,q⟩
variable{tA EM:TT}{rest:List Expr}
noncomputable def Hz(t u:TT):TT:=λσ H Q=>t σ H λc d=>if c=true then u σ d Q else Q false d
noncomputable def Ly(t u:TT):TT:=λσ H Q=>t σ H λc d=>if c=true then Q true d else u σ d Q
noncomputable def Hc(t:TT):TT:=λσ H Q=>t σ H λc d=>Q (!c) d
theorem xX(ha:PT X a tA):PW X (.BoolOp .And [a] pos) tA:=by intro d pins s σ H Q I h;refine isTrue_and (bp (ha pins s σ H Q I h) λc s1 e=>?_);cases c with|true=>exact isTrue_and_nil e|false=>exact e
theorem o9(ha:PT X a tA):PW X (.BoolOp .Or [a] pos) tA:=by intro d pins s σ H Q I h;refine isTrue_or (bp (ha pins s σ H Q I h) λc s1 e=>?_);cases c with|false=>exact isTrue_or_nil e|true=>exact e
theorem AW(ha:PT X a tA)(hb:PW X (.BoolOp .And (b::rest) pos) EM):PW X (.BoolOp .And (a::b::rest) pos) (Hz tA EM):=by intro f pins s σ H Q I h;refine isTrue_and (bp (ha pins s σ H _ I h) λc s1 g=>?_);obtain⟨d,e,q1⟩:=g;cases c with|true=>exact hb f pins s1 σ d Q e q1|false=>exact⟨d,e,q1⟩
theorem uX(ha:PT X a tA)(hb:PW X (.BoolOp .Or (b::rest) pos) EM):PW X (.BoolOp .Or (a::b::rest) pos) (Ly tA EM):=by intro f pins s σ H Q I h;refine isTrue_or (bp (ha pins s σ H _ I h) λc s1 g=>?_);obtain⟨d,e,q1⟩:=g;cases c with|true=>exact⟨d,e,q1⟩|false=>exact hb f pins s1 σ d Q e q1
theorem uP(ha:PT X a tA):PT X (.UnaryOp .Not a pos) (Hc tA):=by intro pins s σ H Q I h;exact isTrue_not (ha pins s σ H (λc d=>Q (!c) d) I h)
noncomputable def Cf(ta tb:TE):TE:=λσ H Q=>ta σ H λx d=>∃c,x= .bl c/\if c=true then tb σ d Q else Q (.bl false) d
theorem tW{c}{t:TE}(h:PE X a t):PE X (.BoolOp c [a] pos) t:=λpins s σ H Q I hw=>BoolOp_one (h pins s σ H Q I hw)
theorem uW(ha:PE X a ta)(hb:PE X (.BoolOp .And (b::rest) pos) tb):PE X (.BoolOp .And (a::b::rest) pos) (Cf ta tb):=by intro pins s σ H Q I h;refine BoolOp_and (bp (ha pins s σ H _ I h) λv s1 g=>?_);obtain⟨x,d,e,f,q1⟩:=g;obtain⟨c,rfl,q1⟩:=q1;cases f;refine wpAny_truthy_bool ?_;cases c with|true=>exact hb pins s1 σ d Q e q1|false=>exact⟨.bl false,d,e,rfl,q1⟩
noncomputable def Lb(t:TT)(ta tb:TE):TE:=λσ H Q=>t σ H λc d=>if c=true then ta σ d Q else tb σ d Q
theorem mJ{c:Expr}(hc:PT X c tA)(ha:PE X a ta)(hb:PE X b tb):PE X (.IfExp c a b pos) (Lb tA ta tb):=by intro pins s σ H Q I h;refine wpAny_IfExp (bp (hc pins s σ H _ I h) λd s1 g=>?_);obtain⟨e,f,q1⟩:=g;cases d with|true=>exact ha pins s1 σ e Q f q1|false=>exact hb pins s1 σ e Q f q1
end
noncomputable def bQ(K:PySem.W.Frag)(H:Hp)(a:Addr)(xs:List V):Prop:=Rd H a (.lst xs)\/∃(o:Obj)(b:Array Value)(n:Nat),K.lookup a=some o/\o.cls= .type "list"/\o.dict=none/\o.data= .seq b n/\b.size<=sizeLine/\Vals xs b.toList
noncomputable def eN(K:PySem.W.Frag)(H:Hp)(a:Addr)(xs:List V):Prop:=Rd H a (.tup xs)\/∃(o:Obj)(b:Array Value)(n:Nat),K.lookup a=some o/\o.cls= .type "tuple"/\o.data= .seq b n/\b.size<=sizeLine/\Vals xs b.toList
noncomputable def G1:Value->Option V| .none=>some .bj| .bool b=>some (.bl b)| .int i _=>some (.int i)| .str x _=>some (.str x)| .bytes b _=>some (.tP b)| .float b _=>some (.AI b)| .ref a=>some (.ref a)| .type n=>some (.ty n)|_=>none
theorem RelV.abs{x:V}{u:Value}(r:RelV x u):G1 u=some x:=by cases x with|bj=>cases r;rfl|bl _=>cases r;rfl|int _=>obtain⟨t,rfl⟩:=r;rfl|str _=>obtain⟨t,rfl⟩:=r;rfl|tP _=>obtain⟨t,rfl⟩:=r;rfl|AI _=>obtain⟨t,rfl⟩:=r;rfl|ref _=>cases r;rfl|ty _=>cases r;rfl
theorem RelV.inj{x y:V}{u:Value}(r:RelV x u)(q:RelV y u):x=y:=Option.some.inj (r.abs.symm.trans q.abs)
theorem Vals.inj:∀{xs a:List V}{us:List Value},Vals xs us->Vals a us->xs=a|_,_,_, .nil, .nil=>rfl|_,_,_, .cons r t, .cons b t'=>by rw[r.inj b,Vals.inj t t']
section
variable{X:Cx}{pins:List (Addr×Obj)}{σ:St}{H:Hp}{s:Shared}{a:Addr}{xs ys:List V}
theorem bQ.of{K:PySem.W.Frag}(h:H a=some (.lst xs)):bQ K H a xs:= .inl (.inl h)
theorem eN.of{K:PySem.W.Frag}(h:H a=some (.tup xs)):eN K H a xs:= .inl (.inl h)
theorem Inv.list(I:Inv X pins σ H s)(h:bQ X.K H a xs):∃b:List Value,Vals xs b/\PlainL s.heap a b.toArray/\xs.length<=sizeLine:=by
 rcases h with h|⟨o,b,n,c,hc,hd,d,f,r⟩;·obtain⟨z,b,n,r,e⟩:=h.ok I.bD;exact⟨b,r,⟨_,n,e,rfl,rfl,rfl⟩,z⟩
 ·refine⟨b.toList,r,⟨o,n,I.j_ a o c,hc,hd,by simpa using d⟩,?_⟩;have e:=r.length;simp only[Array.length_toList]at e;lia
theorem Inv.tuple(I:Inv X pins σ H s)(h:eN X.K H a xs):∃b:List Value,Vals xs b/\IsTup s.heap a b.toArray/\xs.length<=sizeLine:=by
 rcases h with h|⟨o,b,n,c,hc,d,f,r⟩;·obtain⟨z,b,r,p⟩:=h.ok I.bD;exact⟨b,r,p,z⟩
 ·refine⟨b.toList,r,⟨o,I.j_ a o c,hc,n,by simpa using d⟩,?_⟩;have e:=r.length;simp only[Array.length_toList]at e;lia
theorem Inv.mX(I:Inv X pins σ H s)(h:bQ X.K H a xs)(h':bQ X.K H a ys):xs=ys:=by
 obtain⟨f,r,⟨o,n,e,_,_,d⟩,_⟩:=I.list h;obtain⟨its',g,⟨o',i,b,_,_,d'⟩,_⟩:=I.list h';rw[e]at b;cases b;rw[d]at d';injection d' with c _;have :f=its':=by simpa using congrArg Array.toList c
 subst this;exact r.inj g
end
noncomputable abbrev Cx.jV(X:Cx)(E:Value->Shared->Prop):Cx:={X with xe:=E}
noncomputable abbrev Cx.Bt(X:Cx):Cx:=X.jV λ_ _=>False
theorem Cx.Ok.jV{X:Cx}(ok:X.Ok)(E:Value->Shared->Prop):(X.jV E).Ok:=⟨ok.mod,ok.kind,ok.glob,ok.blt,ok.above,ok.inj,ok.has,ok.DT,ok.hd,ok.frames,ok.EL,ok.ET,ok.bs,ok.vD,ok.oM,ok.sV,ok.i8,ok.Ba⟩
theorem Cx.Ok.eC{X:Cx}{E:Value->Shared->Prop}(ok:(X.jV E).Ok):X.Ok:=⟨ok.mod,ok.kind,ok.glob,ok.blt,ok.above,ok.inj,ok.has,ok.DT,ok.hd,ok.frames,ok.EL,ok.ET,ok.bs,ok.vD,ok.oM,ok.sV,ok.i8,ok.Ba⟩
section
variable{X:Cx}{pins:List (Addr×Obj)}{σ:St}{H:Hp}{s:Shared}{E:Value->Shared->Prop}
theorem Inv.jV(I:Inv X pins σ H s)(E:Value->Shared->Prop):Inv (X.jV E) pins σ H s:=⟨I.ok.jV E,I.os,I.bare,I.base,I.loc,I.cell,I.free,I.dY,I.pin,I.bD,I.len⟩
theorem Inv.eC(I:Inv (X.jV E) pins σ H s):Inv X pins σ H s:=⟨I.ok.eC,I.os,I.bare,I.base,I.loc,I.cell,I.free,I.dY,I.pin,I.bD,I.len⟩
theorem SP.eC{D:Ends}{f:Flow}{s':Shared}(h:SP (X.jV E) pins D f s'):SP X pins D f s':=by cases f with|next=>obtain⟨a,H',I,q⟩:=h;exact⟨a,H',I.eC,q⟩|brk=>obtain⟨a,H',I,q⟩:=h;exact⟨a,H',I.eC,q⟩|cont=>obtain⟨a,H',I,q⟩:=h;exact⟨a,H',I.eC,q⟩|ret u=>obtain⟨v,a,H',I,r,q⟩:=h;exact⟨v,a,H',I.eC,r,q⟩
theorem jL.Bt{st:List Stmt}{t:TS}(h:jL X.Bt st t):jL X st t:=λpins s σ H D I hw=>wpAny_mono (h pins s σ H D (I.jV _) hw) (λ_ _ q=>q.eC) λ_ _ z=>False.elim z
end
section
variable{X:Cx}{st:Stmt}{rest:List Stmt}{t u:TS}{e:Expr}{te:TE}{pos:Pos}
noncomputable def Cb:TS:=λD σ H=>D.nx σ H
noncomputable def bZ(t u:TS):TS:=λD σ H=>t {D with nx:=u D} σ H
theorem aZ:jL X [] Cb:=λ_ _ σ H _ I h=>wpAny_execs_nil ⟨σ,H,I,h⟩
theorem aj(h1:PS X st t)(h2:jL X rest u):jL X (st::rest) (bZ t u):=by intro pins s σ H D I h;refine wpAny_execs_cons (bp (h1 pins s σ H {D with nx:=u D} I h) λf s1 q=>?_);cases f with|next=>obtain⟨b,H',a,q⟩:=q;exact h2 pins s1 b H' D a q|ret v=>exact q|brk=>exact q|cont=>exact q
theorem ak(h1:PS X st t):jL X [st] t:=by intro pins s σ H D I h;refine wpAny_execs_cons (bp (h1 pins s σ H D I h) λf s1 q=>?_);cases f with|next=>exact wpAny_execs_nil q|ret v=>exact q|brk=>exact q|cont=>exact q
theorem Inv.quiet{pins:List (Addr×Obj)}{σ:St}{H:Hp}{s:Shared}(I:Inv X pins σ H s):interactive X.env=false:=by simp[interactive,I.ok.kind]
noncomputable def Di(te:TE):TS:=λD σ H=>te σ H λ_ a=>D.nx σ a
theorem rC(he:PE X e te)(c:swapsWith e none pos.line X.env=pure false:=by rfl):PS X (.Expr e pos) (Di te):=by intro pins s σ H D I h;exact wpAny_Expr_any (bp (he pins s σ H _ I h) λv s1⟨x,a,b,d,q1⟩=>⟨σ,a,b,q1⟩) I.quiet c
noncomputable def Fz(te:TE):TS:=λD σ H=>te σ H D.rt
theorem aJ(he:PE X e te):PS X (.Return (some e) pos) (Fz te):=by intro pins s σ H D I h;exact wpAny_Return_some (bp (he pins s σ H _ I h) λv s1⟨x,a,b,c,q1⟩=>⟨x,σ,a,b,c,q1⟩)
noncomputable def Fe(c:TT)(t u:TS):TS:=λD σ H=>c σ H λb a=>if b=true then t D σ a else u D σ a
theorem bG{c:Expr}{a b:List Stmt}{i:TT}(hc:PT X c i)(ha:jL X a t)(hb:jL X b u):PS X (.If c a b pos) (Fe i t u):=by intro pins s σ H D I h;refine wpAny_If (bp (hc pins s σ H _ I h) λd s1 j=>?_);obtain⟨f,g,q1⟩:=j;cases d with|true=>exact ha pins s1 σ f D g q1|false=>exact hb pins s1 σ f D g q1
end
noncomputable abbrev TG:=V->St->Hp->(St->Hp->Prop)->Prop
noncomputable abbrev A7:=List V->St->Hp->(St->Hp->Prop)->Prop
noncomputable def PG(X:Cx)(target:Expr)(t:TG):Prop:=∀(pins:List (Addr×Obj))(s:Shared)(σ:St)(H:Hp)(v:V)(u:Value)(Q:St->Hp->Prop),Inv X pins σ H s->RelV v u->t v σ H Q->wpAny (model X.prog X.w) X.A (assign target X.env u) (λ_ s'=>∃a H',Inv X pins a H' s'/\Q a H') X.xe s
noncomputable def vG(X:Cx)(b:List Expr)(t:A7):Prop:=∀(pins:List (Addr×Obj))(s:Shared)(σ:St)(H:Hp)(vs:List V)(us:List Value)(Q:St->Hp->Prop),Inv X pins σ H s->Vals vs us->t vs σ H Q->wpAny (model X.prog X.w) X.A (assignInOrder ((assignEach b X.env).map (·.2)) us) (λ_ s'=>∃a H',Inv X pins a H' s'/\Q a H') X.xe s
noncomputable abbrev A_:=V->V->V->Hp->(Hp->Prop)->Prop
noncomputable def DH(X:Cx)(t:A_):Prop:=∀(pins:List (Addr×Obj))(s:Shared)(σ:St)(H:Hp)(o i v:V)(b a u:Value)(Q:Hp->Prop),Inv X pins σ H s->RelV o b->RelV i a->RelV v u->t o i v H Q->wpAny (model X.prog X.w) X.A (setItem b a u) (λ_ s'=>∃H',Inv X pins σ H' s'/\Q H') X.xe s
section
variable{X:Cx}{pos:Pos}
noncomputable def kq(i:Nat):TG:=λv σ H Q=>Q (σ.set i (some v)) H
theorem cC{i:Nat}{x:Str}(b:X.N.Nodup)(hi:X.N[i]?=some x)(d:Loc X.env.scope x)(c:X.fn x=true\/X.env.scope.names.lookup x=some .local:=by first|exact .inl rfl|exact .inr rfl|assumption):PG X (.Name x pos) (kq i):=by intro pins s σ H v u Q I r h;exact wpAny_assign_Name (nI I b hi d r (λs' a=>⟨_,H,a,h⟩) c)
noncomputable def Gz:A7:=λvs σ H Q=>vs=[]/\Q σ H
noncomputable def BP(t:TG)(u:A7):A7:=λvs σ H Q=>∃v r,vs=v::r/\t v σ H λa H'=>u r a H' Q
theorem wx:vG X [] Gz:=by intro pins s σ H vs us Q I r h;obtain⟨e,h⟩:=h;subst e;cases r;exact assignInOrder_nil ⟨σ,H,I,h⟩
theorem n8{e:Expr}{es:List Expr}{t:TG}{u:A7}(h1:PG X e t)(h2:vG X es u)(d:(assignEach (e::es) X.env).map (·.2)=assign e X.env::(assignEach es X.env).map (·.2):=by rfl):vG X (e::es) (BP t u):=by intro pins s σ H vs us Q I r h;obtain⟨v,j,c,h⟩:=h;subst c;cases r with|cons r f=>rw[d];refine assignInOrder_cons (bp (h1 pins s σ H _ _ _ I r h) λ_ s1 g=>?_);obtain⟨i,a,b,q1⟩:=g;exact h2 pins s1 i a _ _ Q b f q1
noncomputable def Gg(K:PySem.W.Frag)(n:Nat)(t:A7):TG:=λv σ H Q=>∃a xs,v= .ref a/\eN K H a xs/\xs.length=n/\t xs σ H Q
theorem zj{es:List Expr}{k:Nat}{t:A7}{n:Nat}(hc:X.calm=true)(h:vG X es t)(hn:(assignEach es X.env).length=n:=by rfl)(g:(assignEach es X.env).findIdx? (·.1)=none:=by rfl):PG X (.Tuple es k pos) (Gg X.K n t):=by intro pins s σ H v u Q I r hw;obtain⟨a,xs,f,hq,hl,hw⟩:=hw;subst f;cases r;obtain⟨j,c,ht,l⟩:=I.tuple hq;refine wX (I.hb hc) (show s.heap.IsTuple a j.toArray from ht) (by simp[hn,<-hl,c.length]) g λh' i=>?_;have d:Inv X pins σ H {s with heap:=h'}:=I.kept (t':=s.toks) λb o e=>i b o (zQ15 (zQ05 e)) e;exact h pins _ σ H xs _ Q d (by simpa using c) hw
noncomputable def Hb(to d:TE)(t:A_):TG:=λv σ H Q=>to σ H λo a=>d σ a λi b=>t o i v b λc=>Q σ c
theorem ue{o i:Expr}{to d:TE}{t:A_}(ho:PE X o to)(hi:PE X i d)(m:DH X t)(ha:∀v,assign (.Subscript o i pos) X.env v=(do let a<-holding [v] (eval o X.env);let b<-holding [v,a] (eval i X.env);standAt pos;holding [v,a,b] (setItem a b v);release [v,a,b] []):=by intro _;rfl):PG X (.Subscript o i pos) (Hb to d t):=by intro pins s σ H v u Q I r h;rw[ha];refine zQ00 (d8 (bp (ho pins s σ H _ I h) λa s1 c=>?_));obtain⟨x,e,j,n,q1⟩:=c;refine zQ00 (d8 (bp (hi pins s1 σ e _ j q1) λb s2 c=>?_));obtain⟨y,f,k,p,q2⟩:=c;refine zQ00 (wpAny_standAt (zQ00 (d8 (bp (m pins s2 σ f x y v a b u _ k n p r q2) λ_ q c=>?_))));obtain⟨g,l,q3⟩:=c;exact wpAny_release ⟨σ,g,l,q3⟩
noncomputable def A9(b:TE)(g:TG):TS:=λD σ H=>b σ H λx a=>g x σ a D.nx
theorem vH{tg e:Expr}{a:TE}{g:TG}(he:PE X e a)(d:PG X tg g)(f:swapsWithSole [tg] e pos.line X.env=pure false:=by rfl)(hw:swappedStores [tg] e X.env=pure none:=by rfl)(h1:(assignEach [tg] X.env).map (·.2)=[assign tg X.env]:=by rfl):PS X (.Assign [tg] e pos) (A9 a g):=by intro pins s σ H D I h;refine wpAny_Assign_stores (bp (he pins s σ H _ I h) λv s1 j=>?_) f hw;obtain⟨x,b,c,i,q1⟩:=j;rw[h1];exact bp (d pins s1 σ b x v _ c i q1) λ_ s2 q=>q
theorem aA{i:Nat}{x:Str}{e:Expr}{a:TE}{pos':Pos}(f:X.N.Nodup)(hi:X.N[i]?=some x)(k:Loc X.env.scope x)(he:PE X e a)(j:swapsWith e (some (.Name x pos')) pos.line X.env=pure false:=by rfl)(g:X.fn x=true\/X.env.scope.names.lookup x=some .local:=by first|exact .inl rfl|exact .inr rfl|assumption):PS X (.Assign [.Name x pos'] e pos) (A9 a (kq i)):=by intro pins s σ H D I h;refine wpAny_Assign_Name (bp (he pins s σ H _ I h) λv s1 m=>?_) j;obtain⟨y,b,c,l,q1⟩:=m;exact nI c f hi k l (λs2 d=>⟨_,b,d,q1⟩) g
end
section
variable{X:Cx}{pos:Pos}
end
structure It where
 go:Nat->Hp->Prop
 tS:Nat->Hp->V->Hp->Prop
 stop:Nat->Hp->Prop
noncomputable def f_(X:Cx)(pins:List (Addr×Obj))(H:Hp)(b:Addr):Prop:=H b=none/\b≠X.env.locals/\b∉X.fs/\(b∈X.ex\/X.cc.heap.objs.size<=b)/\(∀x c,X.env.cells.lookup x=some c->c≠b)/\∀p∈X.pn++pins,p.1≠b
theorem Inv.zt{X:Cx}{pins:List (Addr×Obj)}{σ:St}{H H':Hp}{s:Shared}{b:Addr}(I:Inv X pins σ H s)(hb:s.heap.objs.size<=b)(hn:H' b=none):f_ X pins H' b:=by
 refine⟨hn,Nat.ne_of_gt (dk I.lt hb),I.FT hb, .inr (bM I.sz hb),λx c e z=>?_,λp a z=>?_⟩;·obtain⟨v,q⟩:=I.cell x c e;exact absurd (dk q.lt (by rw[z];exact hb)) (Nat.lt_irrefl _)
 ·exact absurd (dk (zQ05 (I.pin p a).1) (by rw[z];exact hb)) (Nat.lt_irrefl _)
structure Turn(P:Program)(w:World)(K:PySem.W.Frag)(tg:Expr)(J:It)(fp:List Addr)(it:Addr)(tn:Nat->Heap->Prop):Prop where
 mem:it∈fp
 obj:∀i h,tn i h->∀b∈fp,∃o,h.get? b=some o/\∀v,o.data≠ .cell v
 keep:∀i h h',tn i h->(∀b∈fp,∀o,h.get? b=some o->h'.get? b=some o)->tn i h'
 item:∀(X:Cx),X.prog=P->X.w=w->X.K=K->X.calm=true->∀(i:Nat)(pins:List (Addr×Obj))(s:Shared)(σ:St)(H:Hp)(E:Value->Shared->Prop),Inv X pins σ H s->(∀b∈fp,f_ X pins H b)->tn i s.heap->J.go i H->wpAny (model P w) X.A (pyNext (.ref it)) (λr s1=>∃u,r=some u/\wpAny (model P w) X.A (letOwnedTupleGo tg (.ref it) u) (λ_ s2=>∃x H',Inv X pins σ H' s2/\RelV x u/\J.tS i H x H'/\tn (i+1) s2.heap/\∀b∈fp,H' b=none) E s1) E s
 done:∀(X:Cx),X.prog=P->X.w=w->X.K=K->X.calm=true->∀(i:Nat)(pins:List (Addr×Obj))(s:Shared)(σ:St)(H:Hp)(E:Value->Shared->Prop),Inv X pins σ H s->(∀b∈fp,f_ X pins H b)->tn i s.heap->J.stop i H->wpAny (model P w) X.A (pyNext (.ref it)) (λr s1=>r=none/\Inv X pins σ H s1) E s
 self:∀(A:Around)(i:Nat)(s:Shared)(Q:Value->Shared->Prop)(E:Value->Shared->Prop),tn i s.heap->Q (.ref it) s->wpAny (model P w) A (pyIter (.ref it)) Q E s
noncomputable abbrev TI:=St->Hp->(It->Hp->Prop)->Prop
noncomputable def H0(X:Cx)(pins:List (Addr×Obj))(σ:St)(tg:Expr)(R:It->Hp->Prop)(a:Value)(s2:Shared):Prop:=∃(it:Addr)(fp:List Addr)(tn:Nat->Heap->Prop)(J:It)(H':Hp),a= .ref it/\Inv X pins σ H' s2/\Turn X.prog X.w X.K tg J fp it tn/\tn 0 s2.heap/\(∀b∈fp,f_ X pins H' b)/\R J H'
noncomputable def PI(X:Cx)(tg iter:Expr)(a:TI):Prop:=∀(pins:List (Addr×Obj))(s:Shared)(σ:St)(H:Hp)(R:It->Hp->Prop),Inv X pins σ H s->a σ H R->wpAny (model X.prog X.w) X.A (eval iter X.env) (λv s1=>wpAny (model X.prog X.w) X.A (pyIter v) (H0 X pins σ tg R) X.xe s1) X.xe s
theorem x5{M:Model}{A:Around}{E:Value->Shared->Prop}{s:Shared}{tg:Expr}{it:Addr}{u:Value}{o:Obj}{n:String}{vs:Array Value}{Q:Unit->Shared->Prop}(ho:s.heap.get? it=some o)(hc:o.cls= .type n)(hd:o.data= .fields vs)(hn:["enumerate","zip","dict_itemiterator","dict_reverseitemiterator","odict_iterator","itertools.zip_longest","itertools.pairwise"].contains n=false)(a:Q () s):wpAny M A (letOwnedTupleGo tg (.ref it) u) Q E s:=by unfold letOwnedTupleGo;cases tg<;>first|exact zQ02 a|(cases u<;>first|exact zQ02 a|(refine zQ00 (wpAny_load ho ?_);rw[hc,hd];show wpAny M A (if(["enumerate","zip","dict_itemiterator","dict_reverseitemiterator","odict_iterator","itertools.zip_longest","itertools.pairwise"].contains n&&vs[0]?==some (rawInt _))=true then _ else _) Q E s;rw[if_neg (by intro h;rw[hn,Bool.false_and]at h;cases h)];exact zQ02 a))
noncomputable def Hw(lo:Int)(n:Nat):It:=⟨λi _=>i<n,λi H x H'=>H'=H/\x= .int (lo+i),λi _=>n<=i⟩
theorem pz{P:Program}{w:World}{K:PySem.W.Frag}{tg:Expr}(it:Addr)(lo:Int)(n:Nat):Turn P w K tg (Hw lo n) [it] it (λi h=>IsRangeIter h it (lo+(i:Nat)*1) ((n:Int)-(i:Nat)) 1)where
 mem:=by simp
 obj:=λi h st b hb=>by
  have e:b=it:=by simpa using hb
  subst e;exact⟨_,st,λv z=>by have u:Data.fields _=Data.cell v:=z;cases u⟩
 keep:=λi h h' st k=>k it (by simp) _ st;item:=by intro X l hw j hc i pins s σ H E I a st m;subst l hw j;obtain⟨c,f1,f2,d,f,g⟩:=a it (by simp);refine oP m st λv h' tk hv aw r=>?_;obtain⟨t,rfl⟩:=hv;have p:Inv X pins σ H {s with heap:=h',toks:=tk}:=I.turned (λb o hb e=>r b o (by simpa using hb) e) c f1 d f g;refine⟨_,rfl,x5 (s:={s with heap:=h',toks:=tk}) (n:="range_iterator") aw rfl rfl (by decide) ⟨.int (lo+i),H,p,⟨t,?_⟩,⟨rfl,rfl⟩,aw,λb hb=>(a b hb).1⟩⟩;rw[Int.mul_one]
 done:=by intro X l hw j hc i pins s σ H E I a st m;subst l hw j;obtain⟨c,f1,f2,d,f,g⟩:=a it (by simp);exact jb (I.hb hc) st (by have :n<=i:=m;lia) λh' q=>⟨rfl,I.turned (t':=s.toks) (λb o hb e=>q b o hb e) c f1 d f g⟩
 self:=λ_ _ _ _ _ st h=>wpAny_pyIter_rangeiter st h
section
variable{X:Cx}{tg:Expr}
theorem uD{pins:List (Addr×Obj)}{σ:St}{H:Hp}{s:Shared}{R:It->Hp->Prop}{E:Value->Shared->Prop}{lo hi:Int}{t u v:Tok}{tk:Nat}(I:Inv X pins σ H s)(h1:-(2^62)<=lo)(h2:lo<2^62)(h3:-(2^62)<=hi)(h4:hi<2^62)(q:R (Hw lo (hi-lo).toNat) H):wpAny (model X.prog X.w) X.A (pyIter (.ref s.heap.objs.size)) (H0 X pins σ tg R) E {s with heap:=s.heap.push {cls:= .type "range",data:= .fields #[.int lo t, .int hi u, .int 1 v]},toks:=tk}:=by
 refine wpAny_pyIter_range (IsRange.new ..) (small_one h1 h2 h3 h4) ?_;have a:Inv X pins σ H {s with heap:=s.heap.push {cls:= .type "range",data:= .fields #[.int lo t, .int hi u, .int 1 v]},toks:=tk}:=I.kept λb o e=>zQ01 _ e;refine⟨(s.heap.push {cls:= .type "range",data:= .fields #[.int lo t, .int hi u, .int 1 v]}).objs.size,[(s.heap.push {cls:= .type "range",data:= .fields #[.int lo t, .int hi u, .int 1 v]}).objs.size],_,_,H,rfl,a.kept (t':=tk) λb o e=>zQ01 _ e,pz _ lo (hi-lo).toNat,?_,λb hb=>?_,q⟩
 ·have c:lo+((0:Nat):Int)*1=lo:=by simp
  have d:(((hi-lo).toNat:Nat):Int)-((0:Nat):Int)=Builtin.Range.rangeSize lo hi 1:=by rw[rangeSize_one];split<;>lia
  show IsRangeIter _ _ (lo+((0:Nat):Int)*1) ((((hi-lo).toNat:Nat):Int)-((0:Nat):Int)) 1;rw[c,d];exact zQ09 _ rfl
 ·have e:b=(s.heap.push {cls:= .type "range",data:= .fields #[.int lo t, .int hi u, .int 1 v]}).objs.size:=by simpa using hb
  subst e;exact a.zt (zQ04 _) (a.bD.fresh (zQ04 _))
noncomputable def Dg(b:TA):TI:=λσ H R=>b σ H λvs a=>∃j:Int,vs=[.int j]/\-(2^62)<=j/\j<2^62/\R (Hw 0 j.toNat) a
theorem cz{a:Expr}{c:TA}{p b:Pos}(f:Gl X "range")(hm:X.mg "range"=none)(ha:PA X [a] c)(g:starEach [a] X.env=[(false,eval a X.env)]:=by rfl):PI X tg (.Call (.Name "range" p) [a] [] b) (Dg c):=by intro pins s σ H R I h;refine Call_ (fk I f hm boot_range (PyProof.Rows.callWith_type1 (bp (ha b pins s σ H _ I h) λus s1 l=>?_) g rfl));obtain⟨vs,m,d,i,q1⟩:=l;obtain⟨j,e,q1,q2,q⟩:=q1;subst e;cases i with|cons r k=>cases k;obtain⟨t,rfl⟩:=r;exact call_range_1 (uD d (by lia) (by lia) q1 q2 (by simpa using q))
noncomputable def FI(e:TI)(g:TG)(tb:TS):TS:=λD σ H=>e σ H λJ c=>∃W:Nat->Nat->St->Hp->Prop,(∃m,W 0 m σ c)/\∀i m σ H,W i m σ H->(J.stop i H/\D.nx σ H)\/(J.go i H/\∃N:St->Hp->Prop,(∀b H',N b H'->∃a,a<m/\W (i+1) a b H')/\∀x H',J.tS i H x H'->g x σ H' λf d=>tb {D with nx:=N,ct:=N,bk:=D.nx} f d)
noncomputable def gE(fp:List Addr)(h:Heap):List (Addr×Obj):=fp.filterMap λb=>(h.get? b).map λo=>(b,o)
theorem cA{fp:List Addr}{h:Heap}{b:Addr}{o:Obj}(hb:b∈fp)(e:h.get? b=some o):(b,o)∈gE fp h:=List.mem_filterMap.mpr ⟨b,hb,by rw[e];rfl⟩
theorem sE{fp:List Addr}{h:Heap}{p:Addr×Obj}(c:p∈gE fp h):p.1∈fp/\h.get? p.1=some p.2:=by obtain⟨b,hb,e⟩:=List.mem_filterMap.mp c;cases q:h.get? b with|none=>rw[q]at e;cases e|some o=>rw[q]at e;have a:(b,o)=p:=Option.some.inj e;subst a;exact⟨hb,q⟩
theorem Inv.pinned{pins:List (Addr×Obj)}{σ:St}{H:Hp}{s:Shared}{fp:List Addr}(I:Inv X pins σ H s)(f:∀b∈fp,f_ X pins H b)(ho:∀b∈fp,∃o,s.heap.get? b=some o/\∀v,o.data≠ .cell v):Inv X (pins++gE fp s.heap) σ H s:=I.qE λp g=>(List.mem_append.mp g).elim (λz=>I.pin p (fh _ z)) λz=>by obtain⟨hb,e⟩:=sE z;obtain⟨c,f1,f2,_⟩:=f p.1 hb;obtain⟨o,a,d⟩:=ho p.1 hb;rw[e]at a;cases a;exact⟨e,c,f1,f2,d⟩
theorem Inv.eJ{pins b:List (Addr×Obj)}{σ:St}{H:Hp}{s:Shared}(I:Inv X (pins++b) σ H s):Inv X pins σ H s:=I.qE λp a=>I.pin p (fh _ (kY _ a))
theorem jv{iter:Expr}{body:List Stmt}{M:TI}{g:TG}{tb:TS}{pos:Pos}(p:PassesOwn (model X.prog X.w) X.A X.env X.xe)(hc:X.calm=true)(hi:PI X tg iter M)(hg:PG X tg g)(hb:jL X body tb)(hs:∀x,foldedSetIterable iter X.env x=pure x:=by intro _;rfl):PS X (.For tg iter body [] pos) (FI M g tb):=by
 intro pins s σ H D I h;refine wpAny_For (bp (hi pins s σ H _ I h) λv s1 h1=>bp h1 λE5 s2 h2=>?_) hs;obtain⟨it,fp,tn,J,O,e,Q,T,bq,f2,W,⟨m0,w0⟩,turn⟩:=h2;subst e;have B:∀{H':Hp},(∀b∈fp,H' b=none)->∀b∈fp,f_ X pins H' b:=λhn b hb=>⟨hn b hb,(f2 b hb).2⟩;refine codeAny_forLoop_any (λn s'=>∃i t H',Inv X pins t H' s'/\tn i s'.heap/\(∀b∈fp,H' b=none)/\W i n t H') ?_ m0 ⟨0,σ,O,Q,bq,λb hb=>(f2 b hb).1,w0⟩;rintro n G⟨i,w,y,E,L,F,w3⟩;rcases turn i n w y w3 with⟨stop,qn⟩|⟨go,N,Z,step⟩;·refine wpAny_passesOwn p (bp (T.done X rfl rfl rfl hc i pins G w y X.xe E (B F) L stop) λr s4 l=>?_);obtain⟨hr,R⟩:=l;subst hr;exact wpAny_execs_nil ⟨w,y,R,qn⟩
 ·refine wpAny_passesOwn p (bp (T.item X rfl rfl rfl hc i pins G w y X.xe E (B F) L go) λr s4 l=>?_);obtain⟨u,hr,h4⟩:=l;subst hr;refine wpAny_passesOwn p (bp h4 λ_ K l=>?_);obtain⟨x,C,S,r5,y5,A,Y⟩:=l;have U:=S.pinned (B Y) (T.obj _ _ A);refine wpAny_passesOwn p (bp (hg _ K w C x u _ U r5 (step x C y5)) λ_ s6 l=>?_);obtain⟨Ll,P,V,q6⟩:=l;refine wpAny_passesOwn p (bp (hb _ s6 Ll P _ V q6) λf z k=>?_);have again:∀{j:St}{a:Hp},Inv X (pins++gE fp K.heap) j a z->N j a->∃m,m<n/\∃i t H',Inv X pins t H' z/\tn i z.heap/\(∀b∈fp,H' b=none)/\W i m t H':=λ{j a}c q=>by obtain⟨m',hm,w7⟩:=Z j a q;refine⟨m',hm,i+1,j,a,c.eJ,T.keep _ _ _ A λb hb o e=>(c.pin (b,o) (fh _ (fh _ (cA hb e)))).1,λb hb=>?_,w7⟩;obtain⟨o,e,d⟩:=T.obj _ _ A b hb;exact(c.pin (b,o) (fh _ (fh _ (cA hb e)))).2.1
  cases f with|next=>obtain⟨j,a,c,q⟩:=k;exact again c q|cont=>obtain⟨j,a,c,q⟩:=k;exact again c q|brk=>obtain⟨j,a,c,k⟩:=k;exact⟨j,a,c.eJ,k⟩|ret v=>obtain⟨x7,j,a,c,r7,k⟩:=k;exact⟨x7,j,a,c.eJ,r7,k⟩
end
noncomputable abbrev R2:=V->V->Hp->VK->Prop
noncomputable def ji(X:Cx)(f:Value->Value->Sem Value)(r:R2):Prop:=∀(pins:List (Addr×Obj))(s:Shared)(σ:St)(H:Hp)(x y:V)(v u:Value)(Q:VK),Inv X pins σ H s->RelV x v->RelV y u->r x y H Q->wpAny (model X.prog X.w) X.A (f v u) (EP X pins σ Q) X.xe s
noncomputable def GS(X:Cx)(f:Value->Sem Value)(r:V->Hp->VK->Prop):Prop:=∀(pins:List (Addr×Obj))(s:Shared)(σ:St)(H:Hp)(x:V)(v:Value)(Q:VK),Inv X pins σ H s->RelV x v->r x H Q->wpAny (model X.prog X.w) X.A (f v) (EP X pins σ Q) X.xe s
noncomputable def g4(X:Cx)(f:Value)(r:List V->Hp->VK->Prop):Prop:=∀(pins:List (Addr×Obj))(s:Shared)(σ:St)(H:Hp)(xs:List V)(us:List Value)(Q:VK),Inv X pins σ H s->Vals xs us->r xs H Q->wpAny (model X.prog X.w) X.A (call f us) (EP X pins σ Q) X.xe s
noncomputable def Cz(r:R2)(c tb:TE):TE:=λσ H Q=>c σ H λx a=>tb σ a λy b=>r x y b Q
noncomputable def Lz(r:V->Hp->VK->Prop)(b:TE):TE:=λσ H Q=>b σ H λx a=>r x a Q
noncomputable def rI(C:Int->Int->Prop)(g:Int->Int->V):R2:=λx y H Q=>∃i j,x= .int i/\y= .int j/\C i j/\Q (g i j) H
noncomputable def yx(g:Int->Int->V):R2:=λx y H Q=>∃i j,x= .int i/\y= .int j/\Q (g i j) H
noncomputable def rU(g:Int->V):V->Hp->VK->Prop:=λx H Q=>∃i,x= .int i/\Q (g i) H
section
variable{X:Cx}{a b c:Expr}{ta tb tc:TE}{pos:Pos}
theorem zE(ha:PE X a ta)(hb:PE X b tb){pins:List (Addr×Obj)}{s:Shared}{σ:St}{H:Hp}{R:V->V->Hp->Prop}(I:Inv X pins σ H s)(h:ta σ H λx e=>tb σ e λy d=>R x y d){Q:Value->Shared->Prop}{f:Value->Value->Sem Value}(k:∀v u s2 x y d,Inv X pins σ d s2->RelV x v->RelV y u->R x y d->wpAny (model X.prog X.w) X.A (f v u) Q X.xe s2):wpAny (model X.prog X.w) X.A (eval a X.env) (λv s₁=>wpAny (model X.prog X.w) X.A (eval b X.env) (λu s₂=>wpAny (model X.prog X.w) X.A (f v u) Q X.xe s₂) X.xe s₁) X.xe s:=by refine bp (ha pins s σ H _ I h) λv s1 g=>?_;obtain⟨x,e,i,l,q1⟩:=g;refine bp (hb pins s1 σ e _ i q1) λu s2 g=>?_;obtain⟨y,d,j,m,q2⟩:=g;exact k v u s2 x y d j l m q2
theorem ar{d:Operator}{r:R2}(ho:ji X (binaryOp d) r)(ha:PE X a ta)(hb:PE X b tb):PE X (.BinOp a d b pos) (Cz r ta tb):=by intro pins s σ H Q I h;exact wpAny_BinOp (zE ha hb I h λv u s2 x y e f g i q=>ho pins s2 σ e x y v u Q f g i q)
theorem Dt{d:UnaryOp}{r:V->Hp->VK->Prop}(ho:GS X (unaryOp d) r)(ha:PE X a ta):PE X (.UnaryOp d a pos) (Lz r ta):=by intro pins s σ H Q I h;exact UnaryOp_ (bp (ha pins s σ H _ I h) λv s1⟨x,e,f,g,q1⟩=>ho pins s1 σ e x v Q f g q1)
theorem FE{f:Value->Value->Sem Value}{C:Int->Int->Prop}{g:Int->Int->Int}(rule:∀(i j:Int)(t u:Tok)(s:Shared)(Q:Value->Shared->Prop)(E:Value->Shared->Prop),C i j->Q (.int (g i j) s.toks) {s with toks:=s.toks+1}->wpAny (model X.prog X.w) X.A (f (.int i t) (.int j u)) Q E s):ji X f (rI C λi j=> .int (g i j)):=by intro pins s σ H x y v u Q I d e h;obtain⟨i,j,rfl,rfl,hc,q⟩:=h;obtain⟨t,rfl⟩:=d;obtain⟨t',rfl⟩:=e;exact rule i j t t' s _ _ hc ⟨.int (g i j),H,I.tok _,⟨_,rfl⟩,q⟩
theorem DU{f:Value->Value->Sem Value}{g:Int->Int->Int}(rule:∀(i j:Int)(t u:Tok)(s:Shared)(Q:Value->Shared->Prop)(E:Value->Shared->Prop),Q (.int (g i j) s.toks) {s with toks:=s.toks+1}->wpAny (model X.prog X.w) X.A (f (.int i t) (.int j u)) Q E s):ji X f (yx λi j=> .int (g i j)):=by intro pins s σ H x y v u Q I d e h;obtain⟨i,j,rfl,rfl,q⟩:=h;obtain⟨t,rfl⟩:=d;obtain⟨t',rfl⟩:=e;exact rule i j t t' s _ _ ⟨.int (g i j),H,I.tok _,⟨_,rfl⟩,q⟩
theorem AS{f:Value->Value->Sem Value}{g:Int->Int->Bool}(rule:∀(i j:Int)(t u:Tok)(s:Shared)(Q:Value->Shared->Prop)(E:Value->Shared->Prop),Q (.bool (g i j)) s->wpAny (model X.prog X.w) X.A (f (.int i t) (.int j u)) Q E s):ji X f (yx λi j=> .bl (g i j)):=by intro pins s σ H x y v u Q I d e h;obtain⟨i,j,rfl,rfl,q⟩:=h;obtain⟨t,rfl⟩:=d;obtain⟨t',rfl⟩:=e;exact rule i j t t' s _ _ ⟨.bl (g i j),H,I,rfl,q⟩
def He(i j:Int):Prop:=0<j/\j<1073741824
def A8(i j:Int):Prop:=(-(2^64)<i/\i<2^64)\/(-(2^64)<j/\j<2^64)
theorem A8.ok{i j:Int}(h:A8 i j):IntMulOk i j:=by
 rcases h with⟨h1,h2⟩|⟨h1,h2⟩;·exact .of_left (intBits_le_64 h1 h2)
 ·exact .of_right (intBits_le_64 h1 h2)
theorem cB:ji X (binaryOp .Add) (yx λi j=> .int (i+j)):=DU λ_ _ _ _ _ _ _ q=>add_int q
theorem iU:ji X (binaryOp .Sub) (yx λi j=> .int (i-j)):=DU λ_ _ _ _ _ _ _ q=>sub_int q
theorem vU:ji X (binaryOp .Mult) (rI A8 λi j=> .int (i*j)):=FE λ_ _ _ _ _ _ _ hc q=>mul_int q hc.ok
theorem bH:ji X (binaryOp .FloorDiv) (rI He λi j=> .int (i/j)):=FE λi j _ _ _ _ _ hc q=>by have h1:(0:Int)<j:=hc.1;have h2:j<1073741824:=hc.2;exact floordiv_int (by lia) (by rw[Int.fdiv_eq_ediv_of_nonneg i (by lia)];exact q) (.inl (PyProof.noPylong_small (by lia)))
theorem bo:ji X (binaryOp .Mod) (rI (λ_ j=>0<j) λi j=> .int (i%j)):=FE λi j _ _ _ _ _ hc q=>by have h1:(0:Int)<j:=hc;exact mod_int' (by lia) (by rw[Int.fmod_eq_emod_of_nonneg i (by lia)];exact q)
theorem L6{f:Value->Sem Value}{g:Int->Int}(rule:∀(i:Int)(t:Tok)(s:Shared)(Q:Value->Shared->Prop)(E:Value->Shared->Prop),Q (.int (g i) s.toks) {s with toks:=s.toks+1}->wpAny (model X.prog X.w) X.A (f (.int i t)) Q E s):GS X f (rU λi=> .int (g i)):=by intro pins s σ H x v Q I d h;obtain⟨i,rfl,q⟩:=h;obtain⟨t,rfl⟩:=d;exact rule i t s _ _ ⟨.int (g i),H,I.tok _,⟨_,rfl⟩,q⟩
theorem zA:GS X (unaryOp .USub) (rU λi=> .int (-i)):=L6 λ_ _ _ _ _ q=>neg_int q
end
noncomputable def ud:V->V->Bool| .bj, .bj=>true| .bj, .int _=>true| .int _, .bj=>true| .bj, .bl _=>true| .bl _, .bj=>true| .bj, .str _=>true| .str _, .bj=>true| .int _, .int _=>true| .bl _, .bl _=>true| .str _, .str _=>true| .tP _, .tP _=>true| .int _, .str _=>true| .str _, .int _=>true| .bl _, .str _=>true| .str _, .bl _=>true|_,_=>false
noncomputable def JN:R2:=λx y H Q=>ud x y=true/\Q (.bl (decide (x=y))) H
noncomputable def La:R2:=λx y H Q=>ud x y=true/\Q (.bl (!decide (x=y))) H
theorem qc{i j:Int}:decide (V.int i=V.int j)=(i==j):=by rw[Bool.eq_iff_iff];simp
theorem uj{i j:Bool}:decide (V.bl i=V.bl j)=(i==j):=by rw[Bool.eq_iff_iff];simp
theorem qW{i j:Str}:decide (V.str i=V.str j)=(i==j):=by rw[Bool.eq_iff_iff];simp
theorem qu{i j:Array UInt8}:decide (V.tP i=V.tP j)=(i.toList==j.toList):=by rw[Bool.eq_iff_iff];cases i;cases j;simp
section
variable{X:Cx}{a b c:Expr}{ta tb tc:TE}{pos:Pos}
theorem aN{pins:List (Addr×Obj)}{σ:St}{H:Hp}{s:Shared}{Q:VK}{k d:Bool}(I:Inv X pins σ H s)(q:Q (.bl k) H)(e:k=d):EP X pins σ Q (.bool d) s:=by subst e;exact⟨.bl k,H,I,rfl,q⟩
theorem bN:ji X (compareOp .Eq) JN:=by
 intro pins s σ H x y v u Q I f d h;obtain⟨e,q⟩:=h;cases x with
  |bj=>cases f;cases y with|bj=>cases d;exact PySem.EqNone.eq_none_none (aN I q (by simp))|bl j=>cases d;exact PySem.EqNone.eq_none_bool (aN I q (by simp))|int j=>obtain⟨t',rfl⟩:=d;exact PySem.EqNone.eq_none_int (aN I q (by simp))|str j=>obtain⟨t',rfl⟩:=d;exact PySem.EqNone.eq_none_str (aN I q (by simp))|_=>exact absurd (show false=true from e) cJ
  |bl i=>cases f;cases y with|bj=>cases d;exact PySem.EqNone.eq_bool_none (aN I q (by simp))|bl j=>cases d;exact eq_bool (aN I q uj)|str j=>obtain⟨t',rfl⟩:=d;exact PySem.EqMixed.eq_bool_str (aN I q (by simp))|_=>exact absurd (show false=true from e) cJ
  |int i=>obtain⟨t,rfl⟩:=f;cases y with|bj=>cases d;exact PySem.EqNone.eq_int_none (aN I q (by simp))|int j=>obtain⟨t',rfl⟩:=d;exact eq_int (aN I q qc)|str j=>obtain⟨t',rfl⟩:=d;exact PySem.EqMixed.eq_int_str (aN I q (by simp))|_=>exact absurd (show false=true from e) cJ
  |str i=>obtain⟨t,rfl⟩:=f;cases y with|bj=>cases d;exact PySem.EqNone.eq_str_none (aN I q (by simp))|bl j=>cases d;exact PySem.EqMixed.eq_str_bool (aN I q (by simp))|int j=>obtain⟨t',rfl⟩:=d;exact PySem.EqMixed.eq_str_int (aN I q (by simp))|str j=>obtain⟨t',rfl⟩:=d;exact eq_str (aN I q qW)|_=>exact absurd (show false=true from e) cJ
  |tP i=>obtain⟨t,rfl⟩:=f;cases y with|tP j=>obtain⟨t',rfl⟩:=d;exact PySem.W.eq_bytes (aN I q qu)|_=>exact absurd (show false=true from e) cJ
  |_=>cases y<;>exact absurd (show false=true from e) cJ
theorem CL:ji X (compareOp .NotEq) La:=by
 intro pins s σ H x y v u Q I f d h;obtain⟨e,q⟩:=h;cases x with
  |bj=>cases f;cases y with|bj=>cases d;exact PySem.EqNone.ne_none_none (aN I q (by simp))|bl j=>cases d;exact PySem.EqNone.ne_none_bool (aN I q (by simp))|int j=>obtain⟨t',rfl⟩:=d;exact PySem.EqNone.ne_none_int (aN I q (by simp))|str j=>obtain⟨t',rfl⟩:=d;exact PySem.EqNone.ne_none_str (aN I q (by simp))|_=>exact absurd (show false=true from e) cJ
  |bl i=>cases f;cases y with|bj=>cases d;exact PySem.EqNone.ne_bool_none (aN I q (by simp))|bl j=>cases d;exact ne_bool (aN I q (congrArg not uj))|str j=>obtain⟨t',rfl⟩:=d;exact PySem.EqMixed.ne_bool_str (aN I q (by simp))|_=>exact absurd (show false=true from e) cJ
  |int i=>obtain⟨t,rfl⟩:=f;cases y with|bj=>cases d;exact PySem.EqNone.ne_int_none (aN I q (by simp))|int j=>obtain⟨t',rfl⟩:=d;exact ne_int (aN I q (congrArg not qc))|str j=>obtain⟨t',rfl⟩:=d;exact PySem.EqMixed.ne_int_str (aN I q (by simp))|_=>exact absurd (show false=true from e) cJ
  |str i=>obtain⟨t,rfl⟩:=f;cases y with|bj=>cases d;exact PySem.EqNone.ne_str_none (aN I q (by simp))|bl j=>cases d;exact PySem.EqMixed.ne_str_bool (aN I q (by simp))|int j=>obtain⟨t',rfl⟩:=d;exact PySem.EqMixed.ne_str_int (aN I q (by simp))|str j=>obtain⟨t',rfl⟩:=d;exact ne_str (aN I q (congrArg not qW))|_=>exact absurd (show false=true from e) cJ
  |tP i=>obtain⟨t,rfl⟩:=f;cases y with|tP j=>obtain⟨t',rfl⟩:=d;exact PySem.W.ne_bytes (aN I q (congrArg not qu))|_=>exact absurd (show false=true from e) cJ
  |_=>cases y<;>exact absurd (show false=true from e) cJ
theorem vd:ji X (compareOp .Lt) (yx λi j=> .bl (decide (i<j))):=AS λ_ _ _ _ _ _ _ q=>lt_int q
theorem DQ:ji X (compareOp .LtE) (yx λi j=> .bl (decide (i<=j))):=AS λ_ _ _ _ _ _ _ q=>le_int q
theorem yo:ji X (compareOp .GtE) (yx λi j=> .bl (decide (j<=i))):=AS λ_ _ _ _ _ _ _ q=>ge_int q
theorem tM:ji X (compareOp .In) (λx y H Q=>∃i j,x= .str i/\y= .str j/\Q (.bl (!(Builtin.Str.occurrences j i 0 j.length 1).isEmpty)) H):=by intro pins s σ H x y v u Q I d e h;obtain⟨i,j,rfl,rfl,q⟩:=h;obtain⟨t,rfl⟩:=d;obtain⟨t',rfl⟩:=e;exact in_str (aN I q rfl)
theorem aO(b:Expr){d:CmpOp}(h:d≠ .In:=by decide)(h2:d≠ .NotIn:=by decide):behindInMarks d b=false:=by
 have e:(d==CmpOp.In)=false:=by cases d<;>first|rfl|exact absurd rfl h
 have f:(d==CmpOp.NotIn)=false:=by cases d<;>first|rfl|exact absurd rfl h2
 cases b<;>simp[behindInMarks,e,f]
theorem gk{d:CmpOp}{r:R2}(ho:ji X (compareOp d) r)(ha:PE X a ta)(hb:PE X b tb)(hm:behindInMarks d b=false):PE X (.Compare a [d] [b] pos) (Cz r ta tb):=by intro pins s σ H Q I h;exact wpAny_Compare1 (zE ha hb I h λv u s2 x y e f g i q=>ho pins s2 σ e x y v u Q f g i q) hm
noncomputable def CH(t:TE):TT:=λσ H Q=>t σ H λx H'=>∃k,x= .bl k/\Q k H'
theorem aD{d:CmpOp}{r:R2}(ho:ji X (compareOp d) r)(ha:PE X a ta)(hb:PE X b tb)(hm:behindInMarks d b=false):PT X (.Compare a [d] [b] pos) (CH (Cz r ta tb)):=by intro pins s σ H Q I h;refine wpAny_isTrue_Compare1 (bp (ha pins s σ H _ I h) λv s1⟨x,f,j,n,q1⟩=>bp (hb pins s1 σ f _ j q1) λu s2⟨y,g,l,o,q2⟩=>bp (ho pins s2 σ g x y v u _ l n o q2) λc q⟨z,i,m,p,k,e,q3⟩=>?_) hm;subst e;cases p;exact wpAny_truthy_bool ⟨i,m,q3⟩
theorem gA:(sizeLine:Nat)<2^63:=by rw[sizeLine_eq];decide
theorem fi:ji X (binaryOp .Add) (λx y H Q=>∃i j,x= .str i/\y= .str j/\i.length+j.length<=sizeLine/\Q (.str (i++j)) H):=by intro pins s σ H x y v u Q I e f h;obtain⟨i,j,rfl,rfl,d,q⟩:=h;obtain⟨t,rfl⟩:=e;obtain⟨t',rfl⟩:=f;exact add_str (λt' tk=>⟨.str (i++j),H,I.tok _,⟨_,rfl⟩,q⟩) d
theorem vals1{x:V}{us:List Value}(r:Vals [x] us):∃u,us=[u]/\RelV x u:=by cases r with|cons d e=>cases e;exact⟨_,rfl,d⟩
theorem kc:g4 X (.type "int") (λxs H Q=>(∃i,xs=[.int i]/\Q (.int i) H)\/∃k,xs=[.bl k]/\Q (.int (if k then 1 else 0)) H):=by
 intro pins s σ H xs us Q I r h;rcases h with⟨i,rfl,q⟩|⟨k,rfl,q⟩;·obtain⟨u,rfl,t,rfl⟩:=vals1 r;exact call_int_int ⟨.int i,H,I,⟨_,rfl⟩,q⟩
 ·obtain⟨u,rfl,d⟩:=vals1 r;cases d;exact call_int_bool ⟨.int (if k then 1 else 0),H,I.tok _,⟨_,rfl⟩,q⟩
end
structure Aj(h:Heap)(x dx C:Addr)(mA:Str->Option Value):Prop where
 obj:h.get? x=some (PySem.W.instObj C dx)
 ns:h.Ns1 dx mA
 ne:dx≠x
theorem tq{h:Heap}{dx:Addr}{mA:Str->Option Value}(n:h.Ns1 dx mA):∃od,h.get? dx=some od/\∀name,PySem.W.lookIn name od=some (mA name):=by
 obtain⟨o,es,ep,ho,hd,c,_,hm⟩:=n;refine⟨o,ho,λname=>?_⟩;have e:=hm name;unfold nsFind findBy at e;rw[<-Array.find?_toList]at e;unfold PySem.W.lookIn;rw[hd];dsimp only;split;·rename_i y q;rw[q]at e;exact congrArg some e
 ·rename_i q;rw[q]at e;have a:es.toList.any (·.refKey)=false:=by rw[List.any_eq_false];intro y f;obtain⟨z,t,d⟩:=c y (Array.mem_toList_iff.mp f);simp[DictEntry.refKey,d]
  have b:¬es.toList.any (·.refKey)=true:=by rw[a];exact cJ
  rw[if_neg b];exact congrArg some e
theorem Aj.look{h:Heap}{x dx C:Addr}{mA:Str->Option Value}(I:Aj h x dx C mA):∃od,PySem.W.InstAt h x (PySem.W.instObj C dx) C (some od)/\∀name,PySem.W.lookIn name od=some (mA name):=let⟨od,ho,hl⟩:=tq I.ns;⟨od,⟨I.obj,rfl,rfl,ho⟩,hl⟩
section
variable{prog:Program}{w:World}{A:Around}{E:Value->Shared->Prop}{s:Shared}{K:PySem.W.Frag}{x dx C f:Addr}{mA:Str->Option Value}{name:Str}{v:Value}
end
theorem gp.some_of{v:V}{o:Option Value}(r:gp (some v) o):∃u,o=some u/\RelV v u:=by cases o with|none=>exact(show False from r).elim|some u=>exact⟨u,rfl,r⟩
section
variable{P:Program}{w:World}{H H':Hp}{h h':Heap}{a C dx:Addr}{fs Ke:List (Str×V)}
theorem wI(bD:ff P w H h)(e:H a=some (.ins C dx fs)):∃mA,Aj h a dx C mA/\(∀f,gp (fs.lookup f) (mA f))/\PySem.Within mA (fs.map (·.1))/\fs.length<=1000/\H dx=some (.own a):=by obtain⟨d,z,ne,ob,mA,n,r,q⟩:=(show br P w H h a (.ins C dx fs)from bD a _ e);exact⟨mA,⟨ob,n,ne⟩,r,q,z,d⟩
end
structure HC(K:PySem.W.Frag)(C:Addr):Prop where
 pg:PySem.W.plainGet K C Str.empty=true
 hd:PySem.W.hasDictIn K C=true
 po:PySem.W.plainOver K C=true
 sa:PySem.W.findIn K (.ref C) "__setattr__"=some (some (.builtin "object.__setattr__"))
theorem HC.get{K:PySem.W.Frag}{C:Addr}(c:HC K C)(f:Str):PySem.W.plainGet K C f=true:=c.pg
structure Mw(K:PySem.W.Frag)(C:Addr)(f:Str)(v:V)(u:Value):Prop where
 at_:PySem.W.findIn K (.ref C) f=some (some u)
 rel:RelV v u
 get:PySem.W.specialIn K u "__get__"=some none
 cp:PySem.W.copiedNames.contains f=false
structure Meth(K:PySem.W.Frag)(C:Addr)(m:Str)(f:Addr):Prop where
 at_:PySem.W.findIn K (.ref C) m=some (some (.ref f))
 fn:PySem.W.isFn K (.ref f)=true
 kp:PySem.W.keepIn K (.ref f)=true
section
variable{X:Cx}{pins:List (Addr×Obj)}{σ:St}{H:Hp}{s:Shared}{a C dx:Addr}{fs:List (Str×V)}{f:Str}{v:V}{A:Around}{E:Value->Shared->Prop}
end
section
variable{X:Cx}{o e value:Expr}{f:Str}{pos pos' zG:Pos}{ta tv:TE}
end
section
variable{X:Cx}{pins:List (Addr×Obj)}{σ:St}{H:Hp}{s:Shared}{A:Around}{E:Value->Shared->Prop}{Q:Value->Shared->Prop}{c:Value}{b:Bool}
inductive fg(K:PySem.W.Frag)(H:Hp):V->Value->Prop where|bj:fg K H .bj (.type "NoneType")|bl(x:Bool):fg K H (.bl x) (.type "bool")|int(i:Int):fg K H (.int i) (.type "int")|str(x:Str):fg K H (.str x) (.type "str")|AI(x:UInt64):fg K H (.AI x) (.type "float")|lst{a:Addr}{xs:List V}(e:H a=some (.lst xs)):fg K H (.ref a) (.type "list")|rT{a:Addr}{o:Obj}{xs:List V}(e:H a=some (.rT o (.lst xs))):fg K H (.ref a) (.type "list")|tup{a:Addr}{xs:List V}(e:H a=some (.tup xs)):fg K H (.ref a) (.type "tuple")|dK{a:Addr}{aL:List (Key×V)}(e:H a=some (.dK aL)):fg K H (.ref a) (.type "dict")|dT{a:Addr}{aL:List (List Key×V)}(e:H a=some (.dT aL)):fg K H (.ref a) (.type "dict")|ins{a C dx:Addr}{fs:List (Str×V)}(e:H a=some (.ins C dx fs))(cl:HC K C)(ha:PySem.W.findIn K (.ref C) "__class__"=some (some (.builtin "object.__class__")))(hn:PySem.W.specialIn K (.builtin "object.__class__") "__get__"=some (some (.builtin "getset_descriptor.__get__")))(Io:PySem.W.takesIn K (.builtin "object.__class__")=some true)(hm:PySem.W.mroIn K C (.type "object")=some true):fg K H (.ref a) (.ref C)
theorem sD{x:V}{u t:Value}(I:Inv X pins σ H s)(f:RelV x u)(ty:fg X.K H x t)(e:PySem.W.kitOne X.K t c=some b)(h:∀tk,Q (.bool b) {s with toks:=tk}):wpAny (model X.prog X.w) A (call (.builtin "isinstance") [u,c]) Q E s:=by cases ty with|bj=>cases(show u=Value.none from f);exact PySem.W.kia_one PySem.W.kitx_none I.j_ True.intro e (λz=>nomatch z) h|bl y=>cases(show u=Value.bool y from f);exact PySem.W.kia_one PySem.W.kitx_bool I.j_ True.intro e (λz=>nomatch z) h|int i=>obtain⟨t,q⟩:=(show∃t,u=Value.int i t from f);cases q;exact PySem.W.kia_one PySem.W.kitx_int I.j_ True.intro e (λz=>nomatch z) h|str y=>obtain⟨t,q⟩:=(show∃t,u=Value.str y t from f);cases q;exact PySem.W.kia_one PySem.W.kitx_str I.j_ True.intro e (λz=>nomatch z) h|AI y=>obtain⟨t,q⟩:=(show∃t,u=Value.float y t from f);cases q;exact PySem.W.kia_one PySem.W.kitx_float I.j_ True.intro e (λz=>nomatch z) h|@lst a xs d=>cases(show u=Value.ref a from f);obtain⟨_,_,n,_,h1⟩:=(show br X.prog X.w H s.heap a (.lst xs)from I.bD a _ d);exact PySem.W.kia_one PySem.W.kitx_list I.j_ ⟨_,h1,rfl⟩ e (λz=>nomatch z) h|@rT a ob xs d=>cases(show u=Value.ref a from f);obtain⟨_,_,_,n,_,h1⟩:=(show br X.prog X.w H s.heap a (.rT ob (.lst xs))from I.bD a _ d);exact PySem.W.kia_one PySem.W.kitx_list I.j_ ⟨_,h1,rfl⟩ e (λz=>nomatch z) h|@tup a xs d=>cases(show u=Value.ref a from f);obtain⟨_,_,_,p⟩:=(show br X.prog X.w H s.heap a (.tup xs)from I.bD a _ d);obtain⟨o,h1,h2,_⟩:=p;exact PySem.W.kia_one PySem.W.kitx_tuple I.j_ ⟨o,h1,h2⟩ e (λz=>nomatch z) h|@dK a aL d=>cases(show u=Value.ref a from f);obtain⟨_,_,vs,_,p⟩:=(show br X.prog X.w H s.heap a (.dK aL)from I.bD a _ d);obtain⟨o,es,ep,h1,h2,_⟩:=p;exact PySem.W.kia_one PySem.W.kitx_dict I.j_ ⟨o,h1,h2.1⟩ e (λz=>nomatch z) h|@dT a aL d=>cases(show u=Value.ref a from f);obtain⟨_,_,xs,_,o,es,ep,h1,h2,_⟩:=(show br X.prog X.w H s.heap a (.dT aL)from I.bD a _ d);exact PySem.W.kia_one PySem.W.kitx_dict I.j_ ⟨o,h1,h2.1⟩ e (λz=>nomatch z) h|@ins a C dx fs d cl ha hn Io hm=>cases(show u=Value.ref a from f);obtain⟨mA,O,_⟩:=wI I.bD d;obtain⟨od,J,_⟩:=O.look;exact PySem.W.kia_one (PySem.W.kitx_own (cl.get _) cl.hd ha hn Io hm) I.j_ J e (λz=>nomatch z) h
end
structure c_(k:Nat)(A:Around):Prop where
 dp:A.depth+3*k+5<recursionLimit
 un:A.units+16*k+200<cLine
 hd:130<=k->A.handled=none
theorem c_.mono{j k:Nat}{A:Around}(r:c_ k A)(h:j<=k):c_ j A:=⟨by have :=r.dp;lia,by have :=r.un;lia,λz=>r.hd (by lia)⟩
theorem c_.deeper{k:Nat}{A:Around}(r:c_ (k+1) A)(env:Env):c_ k (A.deeper env):=⟨by have :=r.dp;show A.depth+1+3*k+5<_;lia,by have :=r.un;show A.units+3+16*k+200<_;lia,λz=>r.hd (by lia)⟩
theorem c_.depth{k:Nat}{A:Around}(r:c_ k A):A.depth<recursionLimit:=by have :=r.dp;lia
theorem c_.units{k:Nat}{A:Around}(r:c_ k A):A.units+64<cLine:=by have :=r.un;lia
noncomputable def Hy:TA:=λ_ H Q=>Q [] H
noncomputable def Dd(c:TE)(d:TA):TA:=λσ H Q=>c σ H λx a=>d σ a λxs b=>Q (x::xs) b
section
variable{X:Cx}{e:Expr}{es:List Expr}{te:TE}{t:TA}{pos:Pos}
theorem ag:PA X [] Hy:=λ_ _ _ _ H Q I h=>Calls.spliced_nil ⟨[],H,I, .nil,h⟩
theorem aa(ha:PE X e te)(hr:PA X es t)(f:starEach (e::es) X.env=(false,eval e X.env)::starEach es X.env:=by rfl):PA X (e::es) (Dd te t):=by intro pos pins s σ H Q I h;rw[f];show wpAny _ _ (spliced ((false,eval e X.env)::backTo pos (starEach es X.env))) _ _ s;refine Calls.spliced_cons (bp (ha pins s σ H _ I h) λu s1 j=>?_);obtain⟨x,a,c,g,q1⟩:=j;exact bp (hr pos pins s1 σ a _ c q1) λus s2⟨xs,b,d,i,q2⟩=>⟨x::xs,b,d, .cons g i,q2⟩
noncomputable def Hf(t:TA):TE:=λσ H Q=>t σ H λxs a=>xs.length<=sizeLine/\∀p,a p=none->Q (.ref p) (upd a p (.tup xs))
noncomputable def FA(t:TA):TE:=λσ H Q=>t σ H λxs a=>xs.length<=sizeLine/\∀p,a p=none->Q (.ref p) (upd a p (.lst xs))
theorem aX{f}(h:PA X es t):PE X (.Tuple es f pos) (Hf t):=by intro pins s σ H Q I hq;refine wpAny_Tuple_spliced (bp (h pos pins s σ H _ I hq) λus s1⟨xs,a,c,r,z,q⟩=>⟨by rw[<-r.length];exact z,?_⟩);have d:a s1.heap.objs.size=none:=c.bD.fresh (zQ04 _);refine⟨.ref s1.heap.objs.size,upd a s1.heap.objs.size (.tup xs),c.laid (t':=s1.toks) (λb u e=>zQ01 _ e) (zQ04 _) ?_,rfl,q _ d⟩;exact⟨z,us,r,⟨_,zQ09 _ rfl,rfl,_,rfl⟩⟩
theorem bh(h:PA X es t):PE X (.List es pos) (FA t):=by intro pins s σ H Q I hq;refine wpAny_List_spliced (bp (h pos pins s σ H _ I hq) λus s1⟨xs,a,c,r,z,q⟩=>⟨by rw[<-r.length];exact z,?_⟩);have d:a s1.heap.objs.size=none:=c.bD.fresh (zQ04 _);refine⟨.ref s1.heap.objs.size,upd a s1.heap.objs.size (.lst xs),c.laid (t':=s1.toks) (λb u e=>zQ01 _ e) (zQ04 _) ?_,rfl,q _ d⟩;exact⟨z,us,0,r,zQ09 _ rfl⟩
end
noncomputable abbrev Sp:=List V->Hp->VK->XK->Prop
noncomputable abbrev nc:=Option Value->List Env->Hp->Shared->XK->Value->Shared->Prop
structure vN(P:Program)(w:World)(K:PySem.W.Frag)(mg:Str->Option Value)(base:Heap)(A:Around)(outer:List Env)(s:Shared)(H:Hp):Prop where
 frames:A.frames=some outer
 mod:Mod K mg base
 bs:∀b o,base.get? b=some o->s.heap.get? b=some o/\H b=none
 vD:base.objs.size<=s.heap.objs.size
 i8:s.heap.FunFrames base outer
 Ba:∀b∈mE outer,H b=none
 bD:ff P w H s.heap
 bare:AllBare s.gens
 hdl:HB base A
noncomputable def CE(outer:List Env)(P:Program)(w:World)(H:Hp)(s:Shared)(Q:VK)(u:Value)(s':Shared):Prop:=∃v H',s'.os=s.os/\AllBare s'.gens/\Un (mE outer) [] H H' s.heap s'.heap/\ff P w H' s'.heap/\RelV v u/\Q v H'
noncomputable def CR(CX:nc)(hh:Option Value)(outer:List Env)(P:Program)(w:World)(H:Hp)(s:Shared)(Q:VK)(E:XK)(r:Result)(s':Shared):Prop:=match r with| .ok (.ret u)=>CE outer P w H s Q u s'| .ok _=>False| .error e=>CX hh outer H s E e s'
structure f6(P:Program)(w:World)(K:PySem.W.Frag)(mg:Str->Option Value)(base:Heap)(CX:nc)(k:Nat)(f:Addr)(fd:FuncData)(ps:List Str)(sp:Sp):Prop where
 len:∀vs H Q E,sp vs H Q E->vs.length=ps.length
 run:∀(A:Around)(outer:List Env)(s:Shared)(H:Hp)(args:Args)(us:List Value)(vs:List V)(Q:VK)(E:XK),c_ k A->vN P w K mg base A outer s H->BindsTo s fd args (ps.zip us)->Vals vs us->sp vs H Q E->codeAny (model P w) A (.call (.ref f) args) (CR CX A.handled outer P w H s Q E) s
section
variable{X:Cx}{pins:List (Addr×Obj)}{σ:St}{H:Hp}{s s':Shared}
theorem Inv.after{Q:VK}{u:Value}(I:Inv X pins σ H s)(h:CE X.stack X.prog X.w H s Q u s'):EP X pins σ Q u s':=by obtain⟨v,H',os,bare,un,bD,r,q⟩:=h;obtain⟨hh,g,d,t,os'⟩:=s';obtain rfl:os'=s.os:=os;exact⟨v,H',I.call (h':=hh) (g':=g) (d':=d) (t':=t) (ch:=[]) un bD bare (λb z=>absurd z (by simp)),r,q⟩
end
noncomputable def Ce(sp:Sp)(b:List V)(E:XK)(t:TA):TE:=λσ H Q=>t σ H λvs a=>sp (vs++b) a Q E
noncomputable def Binds(K:PySem.W.Frag)(fd:FuncData)(ps:List Str)(ds:List Value):Prop:=∀(s:Shared)(us:List Value),K.In s.heap->(us++ds).length=ps.length->BindsTo s fd ⟨us,[]⟩ (ps.zip (us++ds))
theorem Binds.all{K:PySem.W.Frag}{fd:FuncData}{ps:List Str}(h:∀us:List Value,us.length=ps.length->bindArgs fd ⟨us,[]⟩=pure (ps.zip us)):Binds K fd ps []:=λs us _ hl=>by rw[List.append_nil]at hl⊢;exact .of_eq (h us hl)
def Passes(CX:nc)(X:Cx)(E:XK):Prop:=∀(pins:List (Addr×Obj))(σ:St)(H:Hp)(s:Shared)(e:Value)(s':Shared),Inv X pins σ H s->CX X.A.handled X.stack H s E e s'->X.xe e s'
section
variable{X:Cx}{CX:nc}{k:Nat}{f C:Addr}{fd:FuncData}{ps:List Str}{sp:Sp}{Iy:List V}{ds:List Value}{E:XK}{x m:Str}{p pos apos:Pos}{e o:Expr}{es:List Expr}{ta:TE}{t:TA}
end
noncomputable def PK(X:Cx)(a:List Keyword)(t:TA):Prop:=∀(b:Pos)(pins:List (Addr×Obj))(s:Shared)(σ:St)(H:Hp)(Q:List V->Hp->Prop),Inv X pins σ H s->t σ H Q->wpAny (model X.prog X.w) X.A (evalAll ((backToKw b (keywordEach a X.env)).map (·.2))) (AP X pins σ Q) X.xe s
section
variable{X:Cx}{CX:nc}{k:Nat}{f C:Addr}{fd:FuncData}{ps ks:List Str}{sp:Sp}{E:XK}{x m:Str}{p pos apos L7:Pos}{e o:Expr}{es:List Expr}{I0:List Keyword}{te ta:TE}{t tk:TA}{nm:Option Str}
end
structure aU(N P:List Str)(sc:Scope):Prop where
 kind:sc.kind= .function
 co:sc.isCoroutine=false
 gen:sc.isGenerator=false
 nd:N.Nodup
 pre:N.take P.length=P
 par:∀x∈P,sc.names.lookup x=some .local\/sc.names.lookup x=some .cell
 zO:∀y∈sc.names,y.2≠ .free
theorem ky{kindOf:Str->Option NameKind}{x:Str}:∀{binds:List (Str×Value)}{m:Str->Option Value},(∀v,(x,v)∉binds)->bindL kindOf binds m x=m x
 |[],_,_=>rfl
 |(n,v)::r,m,h=>by
  unfold bindL;rw[ky λw hw=>h w (d9 _ hw)];split
  ·have :x≠n:=by rintro rfl;exact h v dj
   simp[this]
  ·rfl
theorem j7{kindOf:Str->Option NameKind}{x:Str}:∀{binds:List (Str×Value)}{m:Str->Option Value},(∀v,(x,v)∉binds)->bindC kindOf binds m x=m x
 |[],_,_=>rfl
 |(n,v)::r,m,h=>by
  unfold bindC;rw[j7 λw hw=>h w (d9 _ hw)];split;·rfl
  ·have :x≠n:=by rintro rfl;exact h v dj
   simp[this]
theorem j4{kindOf:Str->Option NameKind}{x:Str}{v:Value}:∀{P:List Str}{vs:List Value}{i:Nat}{m:Str->Option Value},P.Nodup->P[i]?=some x->vs[i]?=some v->kindOf x=some .local->bindL kindOf (P.zip vs) m x=some v|[],_,_,_,_,h,_,_=>by simp at h|_::_,[],_,_,_,_,h,_=>by simp at h|p::P,w::vs,0,m,nd,h1,h2,a=>by simp at h1 h2;subst h1;subst h2;show bindL kindOf ((p,w)::P.zip vs) m p=_;unfold bindL;rw[ky λv hv=>(List.nodup_cons.mp nd).1 (List.of_mem_zip hv).1,if_pos a];simp|p::P,w::vs,i+1,m,nd,h1,h2,a=>by show bindL kindOf ((p,w)::P.zip vs) m x=_;unfold bindL;exact j4 (i:=i) (List.nodup_cons.mp nd).2 (by simpa using h1) (by simpa using h2) a
theorem kr{kindOf:Str->Option NameKind}{x:Str}{v:Value}:∀{P:List Str}{vs:List Value}{i:Nat}{m:Str->Option Value},P.Nodup->P[i]?=some x->vs[i]?=some v->kindOf x≠some .local->bindC kindOf (P.zip vs) m x=some v|[],_,_,_,_,h,_,_=>by simp at h|_::_,[],_,_,_,_,h,_=>by simp at h|p::P,w::vs,0,m,nd,h1,h2,a=>by simp at h1 h2;subst h1;subst h2;show bindC kindOf ((p,w)::P.zip vs) m p=_;unfold bindC;rw[j7 λv hv=>(List.nodup_cons.mp nd).1 (List.of_mem_zip hv).1,if_neg a];simp|p::P,w::vs,i+1,m,nd,h1,h2,a=>by show bindC kindOf ((p,w)::P.zip vs) m x=_;unfold bindC;exact kr (i:=i) (List.nodup_cons.mp nd).2 (by simpa using h1) (by simpa using h2) a
noncomputable def start(N:List Str)(vs:List V):St:=vs.map some++eE (N.length-vs.length) none
noncomputable def mR(CX:nc)(P:Program)(w:World)(K:PySem.W.Frag)(mg:Str->Option Value)(base:Heap)(N:List Str)(qual:Str)(scope:Scope)(f:Addr)(cd:Value)(A:Around)(outer:List Env)(s:Shared)(H:Hp)(E:XK):Cx where prog:=P;w:=w;K:=K;mg:=mg;base:=base;A:=A.deeper (envOfC qual scope s.heap.objs.size f cd);N:=N;cc:=s;H₀:=H;env:=envOfC qual scope s.heap.objs.size f cd;outer:=outer;stack:=envOfC qual scope s.heap.objs.size f cd::outer;ex:=[];calm:=true;fn:=λ_=>true;pn:=[];xe:=λe s'=>wpAny (model P w) (A.deeper (envOfC qual scope s.heap.objs.size f cd)) (leaving (envOfC qual scope s.heap.objs.size f cd) e) (λ_ a=>CX A.handled outer H s E e a) (λb a=>CX A.handled outer H s E b a) s'
theorem oq{sc:Scope}{n:Nat}{x:Str}(h:sc.names.lookup x=some .cell):∃c,(cellsFrom n sc.names []).lookup x=some c:=by have q:=PySem.W.cellsFrom_some sc.names n [] (.inl h);exact Option.isSome_iff_exists.mp q
theorem su{CX:nc}{P:Program}{w:World}{K:PySem.W.Frag}{mg:Str->Option Value}{base:Heap}{N ps:List Str}{qual:Str}{scope:Scope}{f:Addr}{cd:Value}{A:Around}{outer:List Env}{s s1:Shared}{H:Hp}{E:XK}{us:List Value}{vs:List V}(S:aU N ps scope)(d:vN P w K mg base A outer s H)(hl:vs.length=ps.length)(r:Vals vs us)(x:InCallC s s.heap.objs.size (bindL (envOfC qual scope s.heap.objs.size f cd).kindOf (ps.zip us) λ_=>none) (cellsFrom (s.heap.objs.size+1) scope.names []) (bindC (envOfC qual scope s.heap.objs.size f cd).kindOf (ps.zip us) λ_=>none) s1):Inv (mR CX P w K mg base N qual scope f cd A outer s H E) [] (start N vs) H s1:=by
 have C:ps.length<=N.length:=by have :=congrArg List.length S.pre;rw[List.length_take]at this;lia
 obtain⟨h1,tk,rfl,m⟩:=x.done;have l:∀b:Addr,b∉(mR CX P w K mg base N qual scope f cd A outer s H E).ex:=λb z=>absurd (show b∈([]:List Addr)from z) (by simp);refine⟨⟨d.mod,S.kind,rfl,rfl,zQ04 _,λy z c h1 h2=>?_,λy g=>?_,λy c _ h=>?_,λ_=>d.hdl.LM,Around.frames_deeper d.frames, .inr ⟨rfl,rfl⟩,λb z=>absurd z (l b),d.bs,d.vD,λb _ _=>l b,λb z=>absurd z (l b),d.i8,d.Ba⟩,rfl,d.bare,Un.kept m,⟨_,x.toInCall.ns,λi y v h1 h2 h3=>?_⟩,λy c h=>⟨_,x.cell y c h⟩,d.bD.fresh (zQ04 _),λy c h=>?_,λp j=>absurd (show p∈([]:List (Addr×Obj))from j) (by simp),d.bD.kept m,?_⟩;·exact name_of_addr x.apart (PySem.mem_of_lookup h1) (PySem.mem_of_lookup h2)
 ·have g:scope.names.lookup y=some .cell\/scope.names.lookup y=some .free:=g;rcases g with g|g;·exact oq g
  ·exact absurd rfl (S.zO _ (PySem.mem_of_lookup g))
 ·exact Nat.le_of_lt (x.above y c (PySem.mem_of_lookup h))
 ·have hi:i<vs.length:=by
   unfold start at h2;by_cases hi:i<vs.length;·exact hi
   ·rw[List.getElem?_append_right (by simpa using hi)]at h2;rw[List.getElem?_replicate]at h2;split at h2<;>cases h2
  have ha:vs[i]?=some v:=by unfold start at h2;rw[List.getElem?_append_left (by simpa using hi),ic]at h2;cases e:vs[i]? with|none=>rw[e]at h2;cases h2|some a=>rw[e]at h2;cases h2;rfl
  obtain⟨u,o,B⟩:=r.get ha;have j:ps[i]?=some y:=by rw[<-S.pre,List.getElem?_take_of_lt (by lia)];exact h1
  have t:ps.Nodup:=by rw[<-S.pre];exact S.nd.sublist (List.take_sublist _ _)
  refine⟨u,B,?_⟩;rcases S.par y (List.mem_of_getElem? j)with k|k;·exact .inl ⟨k,j4 t j o k⟩
  ·obtain⟨c,e⟩:=oq (n:=s.heap.objs.size+1) k;refine .inr ⟨.inl k,c,e,?_⟩;have q:=x.cell y c e;rw[kr t j o (by show scope.names.lookup y≠_;rw[k];decide)]at q;exact q
 ·exact d.bD.fresh (Nat.le_of_lt (x.above y c (PySem.mem_of_lookup h)))
 ·unfold start;show _=N.length;rw[gf,dA,List.length_replicate];lia
theorem DY{CX:nc}{P:Program}{w:World}{K:PySem.W.Frag}{mg:Str->Option Value}{base:Heap}{k:Nat}{f:Addr}{name qual:Str}{params:Arguments}{body:List Stmt}{scope:Scope}{h kV doc pm cZ ct oc:Value}{an od:Option Addr}{xu:Array (Option Value)}{N ps:List Str}{sp:Sp}(B:K.lookup f=some ⟨oc,od, .func (PySem.W.fnOf name qual params body scope h kV doc pm an cZ ct),xu⟩)(l:PySem.W.codeIn K cZ qual=true)(S:aU N ps scope)(len:∀vs H Q E,sp vs H Q E->vs.length=ps.length)(j:∀(A:Around)(outer:List Env)(s:Shared)(H:Hp)(vs:List V)(Q:VK)(E:XK),c_ k (A.deeper (envOfC qual scope s.heap.objs.size f cZ))->sp vs H Q E->∃t,jL (mR CX P w K mg base N qual scope f cZ A outer s H E) body t/\t {nx:=λ_ H'=>Q .bj H',rt:=Q} (start N vs) H):f6 P w K mg base CX (k+1) f (PySem.W.fnOf name qual params body scope h kV doc pm an cZ ct) ps sp:=by
 refine⟨len,λA outer s H args us vs Q E hr c hb r i=>?_⟩;have hl:=len _ _ _ _ i;have KX:K.In s.heap:=c.mod.Dk.keeps λb o e=>(c.bs b o e).1;have z:s.heap.NoLimit:=c.mod.nolimit.keeps λb o e=>(c.bs b o e).1;have m:∀y∈ps.zip us,scope.names.lookup y.1=some .local\/(scope.names.lookup y.1=some .cell/\((cellsFrom (s.heap.objs.size+1) scope.names []).lookup y.1).isSome=true):=λ⟨n,v⟩p=>by
  rcases S.par n (List.of_mem_zip p).1 with q|q;·exact .inl q
  ·exact .inr ⟨q,PySem.W.cellsFrom_some _ _ _ (.inl q)⟩
 refine codeAny_call_function hr.depth (KX _ _ B) rfl S.co S.gen rfl (PySem.W.codeRec_of KX l) (hb _ _ _ _ ?_);refine wpAny_newFunctionEnv_cells S.kind m λenv he s1 x=>?_;subst he;refine⟨z.keeps x.toInCall.keep,codeAny_func ?_⟩;obtain⟨t,ht,hq⟩:=j A outer s H vs Q E (hr.deeper _) i;have I:Inv (mR CX P w K mg base N qual scope f cZ A outer s H E) [] (start N vs) H s1:=su S c hl r x;refine wpAny_mono (ht [] s1 (start N vs) H _ I hq) (λfl s' a=>?_) λe s' a=>a;have fin:∀{d:St}{H':Hp}{v:V}{u:Value},Inv (mR CX P w K mg base N qual scope f cZ A outer s H E) [] d H' s'->RelV v u->Q v H'->CE outer P w H s Q u s':=λ{d H' v u}J g q=>⟨v,H',J.os,J.bare,J.base,J.bD,g,q⟩;cases fl with|ret u=>obtain⟨v,d,H',J,g,q⟩:=a;exact fin J g q|next=>obtain⟨d,H',J,q⟩:=a;exact fin (v:=V.bj) (u:=Value.none) J rfl q|brk=>obtain⟨_,_,_,q⟩:=a;exact False.elim q|cont=>obtain⟨_,_,_,q⟩:=a;exact False.elim q
section
variable{X:Cx}{x:Str}{p pos:Pos}{e:Expr}{es:List Expr}{t:TA}{id T:String}{r:List V->Hp->VK->Prop}
noncomputable def Ik(r:List V->Hp->VK->Prop)(t:TA):TE:=λσ H Q=>t σ H λvs a=>r vs a Q
theorem bf(hc:g4 X (.builtin id) r)(d:Gl X x)(hm:X.mg x=none)(hv:bootBuiltins x=some (.builtin id))(ha:PA X (e::es) t)(hn:x≠"__name__":=by decide)(c:(x==("__debug__":Str))=false:=by decide)(he:starEach (e::es) X.env=(false,eval e X.env)::starEach es X.env:=by rfl)(f:(backTo pos (starEach es X.env)).any (·.1)=false:=by rfl):PE X (.Call (.Name x p) (e::es) [] pos) (Ik r t):=by intro pins s σ H Q I h;refine wpAny_Call_Name_kw (fk I d hm hv ?_ hn c);exact PyProof.Rows.callWith_builtin1 (bp (ha pos pins s σ H _ I h) λus s1⟨vs,a,b,g,q1⟩=>hc pins s1 σ a vs us Q b g q1) he f
theorem cT(hc:g4 X (.type T) r)(d:Gl X x)(hm:X.mg x=none)(hv:bootBuiltins x=some (.type T))(ha:PA X (e::es) t)(hn:x≠"__name__":=by decide)(c:(x==("__debug__":Str))=false:=by decide)(he:starEach (e::es) X.env=(false,eval e X.env)::starEach es X.env:=by rfl)(f:(backTo pos (starEach es X.env)).any (·.1)=false:=by rfl):PE X (.Call (.Name x p) (e::es) [] pos) (Ik r t):=by intro pins s σ H Q I h;refine wpAny_Call_Name_kw (fk I d hm hv ?_ hn c);exact PyProof.Rows.callWith_type1 (bp (ha pos pins s σ H _ I h) λus s1⟨vs,a,b,g,q1⟩=>hc pins s1 σ a vs us Q b g q1) he f
end
end L2
end
section
namespace HT
open PySem PyProof.Rows
section
open PySem.SeqAt
open PySem.AutoSeq1(wpAny_loadPart')
open PySem.MeetsSeq PySem.MeetsSeq2 PySem.MeetsSeq3
end
section
variable{prog:Program}{w:World}{A:Around}{E:Value->Shared->Prop}{s:Shared}
noncomputable def cO(n d:Nat):Option Int->Nat|none=>d|some v=>if v<0 then(v+(n:Int)).toNat else min v.toNat n
theorem u_(n d:Nat):cO n d none=d:=rfl
theorem xg(n d k:Nat):cO n d (some (k:Int))=min k n:=by show(if(k:Int)<0 then((k:Int)+(n:Int)).toNat else min (k:Int).toNat n)=min k n;rw[if_neg (by lia),Int.toNat_natCast]
theorem z_(n d:Nat)(hd:d<=n)(o:Option Int):cO n d o<=n:=by
 cases o with
  |none=>exact hd
  |some v=>
   show(if v<0 then(v+(n:Int)).toNat else min v.toNat n)<=n;by_cases hv:v<0;·rw[if_pos hv];lia
   ·rw[if_neg hv];exact Nat.min_le_right _ _
theorem rO(v:Int)(n d:Nat):(if v<0 then max (v+(n:Int)) 0 else min v (n:Int))=((cO n d (some v):Nat):Int):=by
 show(if v<0 then max (v+(n:Int)) 0 else min v (n:Int))=(((if v<0 then(v+(n:Int)).toNat else min v.toNat n):Nat):Int);by_cases hv:v<0;·simp only[if_pos hv];lia
 ·simp only[if_neg hv];lia
theorem o8(lo hi:Option Int)(n:Nat):Builtin.Slice.sliceAdjust lo hi 1 (n:Int)=(((cO n 0 lo:Nat):Int),((cO n n hi:Nat):Int)):=by
 have h1:¬((1:Int)<0):=by lia
 unfold Builtin.Slice.sliceAdjust;simp only[h1,if_false];refine Prod.ext ?_ ?_;·cases lo with|none=>rfl|some v=>exact rO v n 0
 ·cases hi with|none=>rfl|some v=>exact rO v n n
theorem pF(i j:Nat):Builtin.Slice.slicePlaces (i:Int) (j:Int) 1=j-i:=by
 unfold Builtin.Slice.slicePlaces;have h1:(1:Int)>0:=by lia
 simp only[h1,if_true,Int.ediv_one];split<;>lia
theorem jz{v:Value}{o:Option Int}{Q:Option Int->Shared->Prop}(p:IsPart v o)(h:Q o s):wpAny (model prog w) A (Builtin.Slice.slicePartIndex v) Q E s:=by cases p with|none=>exact slicePart_none h|int i t=>exact slicePart_int h
theorem dC{sl:Addr}{c d:Value}{lo hi:Option Int}{n:Nat}{Q:Int×Int×Nat->Shared->Prop}(e:s.heap.IsSliceOf sl c d .none)(f:IsPart c lo)(g:IsPart d hi)(h:Q (((cO n 0 lo:Nat):Int),1,cO n n hi-cO n 0 lo) s):wpAny (model prog w) A (Builtin.Slice.sliceApplied (.ref sl) (pure (n:Int))) Q E s:=by obtain⟨os,b,i,a⟩:=id e;unfold Builtin.Slice.sliceApplied Builtin.Slice.sliceFields;refine zQ00 (zQ00 (cP b a (x:=c) rfl (zQ00 (cP b a (x:=d) rfl (zQ00 (cP b a (x:= .none) rfl (zQ02 ?_)))))));refine zQ00 (slicePart_none ?_);show wpAny _ _ (if((1:Int)==0)=true then _ else _) _ _ s;rw[if_neg (by decide)];refine zQ00 (jz f (zQ00 (jz g (zQ00 (zQ02 ?_)))));show wpAny _ _ (match Builtin.Slice.sliceAdjust lo hi 1 (n:Int)with|(lo,hi)=>pure (lo,(1:Int),Builtin.Slice.slicePlaces lo hi 1)) _ _ s;rw[o8 lo hi n];show wpAny _ _ (pure (((cO n 0 lo:Nat):Int),(1:Int),Builtin.Slice.slicePlaces ((cO n 0 lo:Nat):Int) ((cO n n hi:Nat):Int) 1)) _ _ s;rw[pF];exact zQ02 h
theorem ux(xs:Array Value)(i k:Nat):((List.range k).filterMap λ(m:Nat)=>xs[((i:Int)+(m:Int)*1).toNat]?).toArray=((xs.toList.drop i).take k).toArray:=by
 have e:(λ(m:Nat)=>xs[((i:Int)+(m:Int)*1).toNat]?)=λm=>xs[i+m]?:=by
  funext m;have :((i:Int)+(m:Int)*1).toNat=i+m:=by lia
  rw[this]
 rw[e];have :=pick_run xs i k;rw[List.filterMap_map]at this;have a:((λx=>xs[x]?)∘λx=>i+x)=λm=>xs[i+m]?:=rfl;rw[a]at this;rw[this]
theorem fw{t sl:Addr}{items:Array Value}{c d:Value}{lo hi:Option Int}{Q:Value->Shared->Prop}(ht:IsTup s.heap t items)(b:s.heap.IsSliceOf sl c d .none)(j:IsPart c lo)(k:IsPart d hi)(hw:¬(cO items.size 0 lo=0/\cO items.size items.size hi=items.size))(h:Q (.ref s.heap.objs.size) {s with heap:=s.heap.push {cls:= .type "tuple",data:= .seq ((items.toList.drop (cO items.size 0 lo)).take (cO items.size items.size hi-cO items.size 0 lo)).toArray}})(n:items.size<=sizeLine):wpAny (model prog w) A (getItem (.ref t) (.ref sl)) Q E s:=by
 have a:sizeOk (.seq ((items.toList.drop (cO items.size 0 lo)).take (cO items.size items.size hi-cO items.size 0 lo)).toArray):=by show((items.toList.drop (cO items.size 0 lo)).take (cO items.size items.size hi-cO items.size 0 lo)).toArray.size<=sizeLine;rw[bY,List.length_take,List.length_drop,Array.length_toList];lia
 have hj:cO items.size items.size hi<=items.size:=z_ _ _ (zQ04 _) hi;obtain⟨os,i,f,l⟩:=id b;have e:s.TypeIs (.ref sl) "slice":=⟨os,i,f⟩;unfold getItem;try with_reducible refine d8 ?_
 first|refine zQ00 (zQ02 ?_)|skip
 refine zQ00 (wpAny_sequenceKey ht.typeIs (by decide) ?_);refine zQ00 (wpAny_callSpecial?_slot (name:=Str.ofString "__getitem__") ht.typeIs PyProof.Rows.slot_tuple_getitem (eG PyProof.Rows.slot_tuple_getitem ht.typeIs entry_tuple_getitem ?_ (args_tuple_getitem _ _)));show wpAny _ _ (Builtin.Tuple.tupleItemsOf (.ref t)>>=_) _ _ s;refine zQ00 (tupleItemsOf_ ht ?_);refine zQ00 (wpAny_typeOf e ?_);rw[if_pos (by decide)];refine zQ00 (dC b j k ?_);have g:¬((((cO items.size 0 lo:Nat):Int)==0&&(1:Int)==1&&(cO items.size items.size hi-cO items.size 0 lo)==items.size)=true):=by intro q;rw[cu,cu]at q;have q1:((cO items.size 0 lo:Nat):Int)=0:=eq_of_beq q.1.1;have q2:cO items.size items.size hi-cO items.size 0 lo=items.size:=eq_of_beq q.2;exact hw ⟨by lia,by lia⟩
 show wpAny _ _ (if(((cO items.size 0 lo:Nat):Int)==0&&(1:Int)==1&&(cO items.size items.size hi-cO items.size 0 lo)==items.size)=true then _ else _) _ _ s;rw[if_neg g,ux];first|exact zQ00 (m:=Builtin.Tuple.tupleExact _) (gd (zQ02 ⟨_,rfl,zQ02 h⟩) a)|exact zQ00 (m:=Builtin.Tuple.tupleExact _) (gd (zQ00 (zQ02 (zQ02 ⟨_,rfl,zQ02 h⟩))) a)|exact zQ00 (zQ00 (m:=Builtin.Tuple.tupleExact _) (gd (zQ02 (zQ02 ⟨_,rfl,zQ02 h⟩)) a))|exact zQ00 (zQ00 (m:=Builtin.Tuple.tupleExact _) (gd (zQ02 ⟨_,rfl,zQ02 h⟩) a))
end
end HT
end
section
namespace L2
open PySem PySem.Spec PyProof.Rows
noncomputable abbrev TO:=St->Hp->(Option Int->Hp->Prop)->Prop
noncomputable def PO(X:Cx)(e:Option Expr)(t:TO):Prop:=∀(pins:List (Addr×Obj))(s:Shared)(σ:St)(H:Hp)(Q:Option Int->Hp->Prop),Inv X pins σ H s->t σ H Q->wpAny (model X.prog X.w) X.A (evalPart e X.env) (λu s'=>∃o H',Inv X pins σ H' s'/\IsPart u o/\Q o H') X.xe s
noncomputable def xv:TO:=λ_ H Q=>Q none H
noncomputable def BZ(t:TE):TO:=λσ H Q=>t σ H λx a=>∃i,x= .int i/\Q (some i) a
section
variable{X:Cx}{e:Expr}{te:TE}{lo hi:Option Expr}{tl th:TO}{pos p2:Pos}
theorem cD:PO X none xv:=by intro pins s σ H Q I h;rw[evalPart_none];exact zQ02 ⟨none,H,I, .none,h⟩
theorem dI(h:PE X e te):PO X (some e) (BZ te):=by intro pins s σ H Q I hw;rw[evalPart_some];refine bp (h pins s σ H _ I hw) λu s1 d=>?_;obtain⟨x,a,b,c,q1⟩:=d;obtain⟨i,rfl,q⟩:=q1;obtain⟨t,rfl⟩:=c;exact⟨some i,a,b, .int i t,q⟩
noncomputable def FV(X:Cx)(r:V->Option Int->Option Int->Hp->VK->Prop):Prop:=∀(pins:List (Addr×Obj))(s:Shared)(σ:St)(H:Hp)(x:V)(v a b:Value)(lo hi:Option Int)(sl:Addr)(Q:VK),Inv X pins σ H s->RelV x v->s.heap.IsSliceOf sl a b .none->IsPart a lo->IsPart b hi->r x lo hi H Q->∃T id,typeLookup (.type T) "__getitem__"=pure (some (.builtin id))/\s.TypeIs v T/\wpAny (model X.prog X.w) X.A (getItem v (.ref sl)) (EP X pins σ Q) X.xe s
noncomputable def Kx(r:V->Option Int->Option Int->Hp->VK->Prop)(te:TE)(tl th:TO):TE:=λσ H Q=>te σ H λx a=>tl σ a λl b=>th σ b λu c=>r x l u c Q
theorem uG{r:V->Option Int->Option Int->Hp->VK->Prop}(hr:FV X r)(he:PE X e te)(hl:PO X lo tl)(t:PO X hi th):PE X (.Subscript e (.Slice lo hi none p2) pos) (Kx r te tl th):=by intro pins s σ H Q I h;refine Subscript_ (bp (he pins s σ H _ I h) λv s1 f=>?_);obtain⟨x,i,k,z,q1⟩:=f;refine wpAny_Slice (bp (hl pins s1 σ i _ k q1) λc s2⟨l,j,m,w,q2⟩=>bp (t pins s2 σ j _ m q2) λd a f=>?_);obtain⟨u,g,n,y,q3⟩:=f;rw[evalPart_none];refine zQ02 ?_;have o:Inv X pins σ g {a with heap:=a.heap.push {cls:= .type "slice",data:= .fields #[c,d, .none]}}:=n.kept (t':=a.toks) λb ob q=>zQ01 _ q;obtain⟨T,id,hT,ht,p⟩:=hr pins {a with heap:=a.heap.push {cls:= .type "slice",data:= .fields #[c,d, .none]}} σ g x v c d l u a.heap.objs.size Q o z (Heap.IsSliceOf.new ..) w y q3;show wpAny (model X.prog X.w) X.A (subscriptTail e (.Slice lo hi none p2) v (.ref a.heap.objs.size)) (EP X pins σ Q) X.xe {a with heap:=a.heap.push {cls:= .type "slice",data:= .fields #[c,d, .none]}};exact tail_any (ops:=[.ref a.heap.objs.size,v]) ht hT p (by with_unfolding_all rfl)
noncomputable def jW(xs:List V)(lo hi:Option Int):List V:=(xs.drop (HT.cO xs.length 0 lo)).take (HT.cO xs.length xs.length hi-HT.cO xs.length 0 lo)
theorem nK(xs:List V)(lo hi:Option Int):(jW xs lo hi).length<=xs.length:=by unfold jW;rw[List.length_take,List.length_drop];lia
noncomputable def F1(K:PySem.W.Frag):V->Option Int->Option Int->Hp->VK->Prop:=λx lo hi H Q=>∃a xs,x= .ref a/\eN K H a xs/\¬(HT.cO xs.length 0 lo=0/\HT.cO xs.length xs.length hi=xs.length)/\∀p,H p=none->Q (.ref p) (upd H p (.tup (jW xs lo hi)))
theorem AQ:FV X (F1 X.K):=by
 intro pins s σ H x v l m lo hi sl Q I k d i j h;obtain⟨a,xs,rfl,f,hw,q⟩:=h;cases k;obtain⟨g,r,ht,c⟩:=I.tuple f;have hlen:g.toArray.size=xs.length:=by rw[bY];exact r.length.symm
 refine⟨"tuple",_,PyProof.Rows.slot_tuple_getitem.lookup,ht.typeIs,?_⟩;refine HT.fw ht d i j (by rw[hlen];exact hw) ?_ (by rw[hlen];exact c);rw[hlen];refine⟨.ref s.heap.objs.size,_,I.laid (t':=s.toks) (o:= .tup (jW xs lo hi)) (λb ob q=>zQ01 _ q) (zQ04 _) ?_,rfl,q _ (I.bD.fresh (zQ04 _))⟩;exact⟨bM (nK xs lo hi) c,_,(r.drop (HT.cO xs.length 0 lo)).take (HT.cO xs.length xs.length hi-HT.cO xs.length 0 lo),IsTup.new _ _⟩
end
noncomputable def Ae(n:Nat)(i:Int):Option Nat:=if 0<=i then(if i<n then some i.toNat else none)else if-(n:Int)<=i then some (i+n).toNat else none
noncomputable def jY{a:Type}(xs:List a)(i:Int):Option a:=(Ae xs.length i).bind λj=>xs[j]?
theorem qG{n:Nat}{i:Int}{j:Nat}(h:Ae n i=some j):seqIndex? i n=some j/\j<n/\-(n:Int)<=i/\i<n:=by
 unfold Ae at h;by_cases a:0<=i
 ·rw[if_pos a]at h;by_cases h1:i<n;·rw[if_pos h1]at h;have e:i.toNat=j:=Option.some.inj h;exact⟨by rw[seqIndex_of a h1,e],by lia,by lia,h1⟩
  ·rw[if_neg h1]at h;cases h
 ·rw[if_neg a]at h;by_cases h1:-(n:Int)<=i;·rw[if_pos h1]at h;have e:(i+n).toNat=j:=Option.some.inj h;exact⟨by rw[seqIndex_neg (by lia) h1,e],by lia,h1,by lia⟩
  ·rw[if_neg h1]at h;cases h
theorem lh{a:Type}{xs:List a}{i:Int}{v:a}(h:jY xs i=some v):∃j,seqIndex? i xs.length=some j/\xs[j]?=some v/\j<xs.length/\-(xs.length:Int)<=i/\i<xs.length:=by unfold jY at h;cases e:Ae xs.length i with|none=>rw[e]at h;cases h|some j=>rw[e]at h;obtain⟨h1,h2,h3,h4⟩:=qG e;exact⟨j,h1,h,h2,h3,h4⟩
theorem aV{a:Type}{xs:List a}{j:Nat}{v:a}(h:xs[j]?=some v):jY xs (j:Int)=some v:=by
 have hj:j<xs.length:=(List.getElem?_eq_some_iff.mp h).1;have e:Ae xs.length (j:Int)=some j:=by unfold Ae;rw[if_pos (by lia),if_pos (by lia)];simp
 unfold jY;rw[e];exact h
def wM(b:Expr):Prop:=∀o i,subscripted b false o i=operate [o,i] (getItem o i)
noncomputable def Du(X:Cx)(r:R2):Prop:=∀(value slice:Expr)(pins:List (Addr×Obj))(s:Shared)(σ:St)(H:Hp)(x y:V)(v u:Value)(Q:VK),Inv X pins σ H s->RelV x v->RelV y u->r x y H Q->subscripted slice false v u=operate [v,u] (getItem v u)->wpAny (model X.prog X.w) X.A (subscriptTail value slice v u) (EP X pins σ Q) X.xe s
noncomputable def JV(X:Cx)(id:String)(r:V->List V->Hp->VK->Prop):Prop:=∀(pins:List (Addr×Obj))(s:Shared)(σ:St)(H:Hp)(x:V)(xs:List V)(v:Value)(us:List Value)(Q:VK),Inv X pins σ H s->RelV x v->Vals xs us->r x xs H Q->wpAny (model X.prog X.w) X.A (call (.builtin id) (v::us)) (EP X pins σ Q) X.xe s
section
variable{X:Cx}{a b:Expr}{ta tb:TE}{pos:Pos}
theorem bu{r:R2}(hr:Du X r)(ha:PE X a ta)(hb:PE X b tb)(e:wM b):PE X (.Subscript a b pos) (Cz r ta tb):=by intro pins s σ H Q I h;exact Subscript_ (zE ha hb I h λv u s2 x y c d f g q=>hr a b pins s2 σ c x y v u Q d f g q (e _ _))
noncomputable def HG(K:PySem.W.Frag):R2:=λx y H Q=>∃p xs i v,x= .ref p/\y= .int i/\bQ K H p xs/\jY xs i=some v/\Q v H
noncomputable def Ew(K:PySem.W.Frag):R2:=λx y H Q=>∃p xs i v,x= .ref p/\y= .int i/\eN K H p xs/\jY xs i=some v/\Q v H
noncomputable def Fo:R2:=λx y H Q=>∃z i c,x= .str z/\y= .int i/\z.length<=sizeLine/\jY z.cps.toList i=some c/\Q (.str ⟨#[c]⟩) H
theorem bW:Du X (HG X.K):=by
 intro value slice pins s σ H x y v u Q I l m h f;obtain⟨p,xs,i,z,rfl,rfl,hq,he,q⟩:=h;cases l;obtain⟨t,rfl⟩:=m;obtain⟨g,r,c,n⟩:=I.list hq;obtain⟨j,h1,h2,h3,h4,h5⟩:=lh he;obtain⟨w,d,k⟩:=r.get h2;have hl:=r.length;have hn:=gA;have fin:EP X pins σ Q w s:=⟨z,H,I,k,q⟩;by_cases e:0<=i
 ·have hj:i.toNat=j:=by rw[seqIndex_of e h5]at h1;exact Option.some.inj h1
  exact item_listR c.isList e (by lia) (by rw[hj];simpa using d) fin f
 ·have hj:(i+(g.toArray.size:Int)).toNat=j:=by rw[seqIndex_neg (by lia) h4]at h1;rw[bY,<-hl];exact Option.some.inj h1
  exact subscriptTail_builtinR (x:=w) c.isList.typeIs slot_list_getitem.lookup (wpAny_getItem_list_neg (Q:=λr s'=>r=w/\EP X pins σ Q r s') c.isList (by lia) (by rw[bY]<;>lia) (by lia) (by rw[hj];simpa using d) ⟨rfl,fin⟩) f
theorem ck:Du X (Ew X.K):=by intro value slice pins s σ H x y v u Q I g k h e;obtain⟨p,xs,i,z,rfl,rfl,hq,he,q⟩:=h;cases g;obtain⟨t,rfl⟩:=k;obtain⟨m,r,c,l⟩:=I.tuple hq;obtain⟨j,h1,h2,h3,h4,h5⟩:=lh he;obtain⟨w,d,f⟩:=r.get h2;have hl:=r.length;have hn:=gA;have fin:EP X pins σ Q w s:=⟨z,H,I,f,q⟩;exact subscriptTail_builtinR (x:=w) c.typeIs slot_tuple_getitem.lookup (getItem_tuple (j:=j) (Q:=λr s'=>r=w/\EP X pins σ Q r s') c (by lia) (by lia) (by rw[bY,<-hl];exact h1) (by simpa using d) ⟨rfl,fin⟩) e
theorem Av:Du X Fo:=by
 intro value slice pins s σ H x y v u Q I g k h f;obtain⟨z,i,c,rfl,rfl,l,he,q⟩:=h;obtain⟨t,rfl⟩:=g;obtain⟨t',rfl⟩:=k;obtain⟨j,h1,h2,h3,h4,h5⟩:=lh he;have hl:z.cps.toList.length=z.length:=by simp[Str.length]
 rw[hl]at h1 h4 h5;have hn:=gA;exact tail_any (typeIs_str s z t) slot_str_getitem.lookup (getItem_str (c:=c) (by have d:decide (i< -(2^63:Int))=false:=decide_eq_false (by lia);have e:decide (i>=2^63)=false:=decide_eq_false (by lia);rw[d,e,Bool.or_false]) (by rw[h1];simpa using h2) ⟨.str ⟨#[c]⟩,H,I.tok _,⟨_,rfl⟩,q⟩) f
theorem pA(c:List Value)(n j:Nat)(u:Value):Obj.mapSeq (·.setIfInBounds j u) {cls:= .type "list",data:= .seq c.toArray n}={cls:= .type "list",data:= .seq (c.set j u).toArray n}:=by simp[Obj.mapSeq]
theorem Inv.lst{pins:List (Addr×Obj)}{σ:St}{H:Hp}{s:Shared}{p:Addr}{xs:List V}(I:Inv X pins σ H s)(h:H p=some (.lst xs)):∃(c:List Value)(n:Nat),Vals xs c/\s.heap.get? p=some {cls:= .type "list",data:= .seq c.toArray n}/\xs.length<=sizeLine:=by obtain⟨z,c,n,r,e⟩:=I.bD p _ h;exact⟨c,n,r,e,z⟩
theorem Inv.zV{pins:List (Addr×Obj)}{σ:St}{H:Hp}{s:Shared}{p:Addr}{xs d:List V}{i its':List Value}{n c:Nat}{f:Obj->Obj}(I:Inv X pins σ H s)(h:H p=some (.lst xs))(ho:s.heap.get? p=some {cls:= .type "list",data:= .seq i.toArray n})(g:f {cls:= .type "list",data:= .seq i.toArray n}={cls:= .type "list",data:= .seq its'.toArray c})(r:Vals d its')(j:d.length<=sizeLine)(t:Nat):Inv X pins σ (upd H p (.lst d)) {s with heap:=s.heap.update p f,toks:=t}:=by
 have e:(s.heap.update p f).get? p=some {cls:= .type "list",data:= .seq its'.toArray c}:=by rw[Heap.get?_update_self f ho (by rw[g]<;>rfl),g]
 refine I.write (x:=p) (e:=p) (by rw[h];trivial) (.inl rfl) (λb u hb q=>(pH _ _ (Ne.symm hb)).trans q) ⟨_,e⟩ ?_;exact⟨j,its',c,r,e⟩
noncomputable def Dj:V->V->V->Hp->(Hp->Prop)->Prop:=λo i v H Q=>∃p xs k j,o= .ref p/\i= .int k/\H p=some (.lst xs)/\Ae xs.length k=some j/\Q (upd H p (.lst (xs.set j v)))
theorem set_list:DH X Dj:=by
 intro pins s σ H o i v y x u Q I m ri w h;obtain⟨p,xs,k,j,rfl,rfl,f,hj,q⟩:=h;cases m;obtain⟨t,rfl⟩:=ri;obtain⟨g,n,r,ho,l⟩:=I.lst f;obtain⟨h1,h2,h3,h4⟩:=qG hj;have hl:=r.length;have hn:=gA;have d:Inv X pins σ (upd H p (.lst (xs.set j v))) {s with heap:=s.heap.update p (Obj.mapSeq (·.setIfInBounds j u))}:=I.zV f ho (pA g n j u) (r.set w j) (by rw[List.length_set];exact l) s.toks;by_cases e:0<=k
 ·have c:k.toNat=j:=by rw[seqIndex_of e h4]at h1;exact Option.some.inj h1
  exact PySem.W.ki_setAt ho e (by lia) (by rw[bY,<-hl];exact h4) (by rw[c];exact⟨_,d,q⟩)
 ·have c:(k+(g.toArray.size:Int)).toNat=j:=by rw[seqIndex_neg (by lia) h3]at h1;rw[bY,<-hl];exact Option.some.inj h1
  exact PySem.W.ki_setBack ho (by lia) (by rw[bY,<-hl];exact h3) (by lia) (by rw[c];exact⟨_,d,q⟩)
noncomputable def dZ:V->Bool| .bj=>true| .bl _=>true| .int _=>true| .str _=>true|_=>false
noncomputable def vm:V->V->Bool| .bj, .bj=>true| .bl a, .bl b=>a==b| .bl a, .int b=>(if a then 1 else 0)==b| .int a, .bl b=>a==(if b then 1 else 0)| .int a, .int b=>a==b| .str a, .str b=>a==b|_,_=>false
theorem vW{A:Around}{s:Shared}{y x:V}{u v:Value}(e:RelV y u)(c:RelV x v)(f:dZ y=true)(d:dZ x=true):SeqAt.EqAt A s u v (vm y x):=by
 cases y with
  |bj=>cases e;cases x with|bj=>cases c;exact SeqAt.EqAt.same _|bl b=>cases c;exact SeqAt.EqAt.none_bool b|int b=>obtain⟨t,rfl⟩:=c;exact SeqAt.EqAt.none_int b t|str b=>obtain⟨t,rfl⟩:=c;exact SeqAt.EqAt.none_str b t|_=>exact absurd (show false=true from d) cJ
  |bl a=>cases e;cases x with|bj=>cases c;exact SeqAt.EqAt.bool_none a|bl b=>cases c;exact SeqAt.EqAt.bool_bool a b|int b=>obtain⟨t,rfl⟩:=c;exact SeqAt.EqAt.bool_int a b t|str b=>obtain⟨t,rfl⟩:=c;exact SeqAt.EqAt.bool_str a b t|_=>exact absurd (show false=true from d) cJ
  |int a=>obtain⟨t',rfl⟩:=e;cases x with|bj=>cases c;exact SeqAt.EqAt.int_none a t'|bl b=>cases c;exact SeqAt.EqAt.int_bool a t' b|int b=>obtain⟨t,rfl⟩:=c;exact SeqAt.EqAt.int_int a t' b t|str b=>obtain⟨t,rfl⟩:=c;exact SeqAt.EqAt.int_str a t' b t|_=>exact absurd (show false=true from d) cJ
  |str a=>obtain⟨t',rfl⟩:=e;cases x with|bj=>cases c;exact SeqAt.EqAt.str_none a t'|bl b=>cases c;exact SeqAt.EqAt.str_bool a t' b|int b=>obtain⟨t,rfl⟩:=c;exact SeqAt.EqAt.str_int a t' b t|str b=>obtain⟨t,rfl⟩:=c;exact SeqAt.EqAt.str_str a t' b t|_=>exact absurd (show false=true from d) cJ
  |_=>exact absurd (show false=true from f) cJ
noncomputable def xD(x:V)(u:Value):Bool:=match u with| .none=>vm .bj x| .bool b=>vm (.bl b) x| .int i _=>vm (.int i) x| .str z _=>vm (.str z) x|_=>false
theorem uJ{x y:V}{u:Value}(r:RelV y u)(f:dZ y=true):xD x u=vm y x:=by cases y with|bj=>cases r;rfl|bl b=>cases r;rfl|int i=>obtain⟨t,rfl⟩:=r;rfl|str z=>obtain⟨t,rfl⟩:=r;rfl|_=>exact absurd (show false=true from f) cJ
theorem mw{x:V}:∀{xs:List V}{us:List Value},Vals xs us->xs.all dZ=true->us.any (xD x)=xs.any λy=>vm y x|_,_, .nil,_=>rfl|y::xs,u::us, .cons r t,f=>by rw[List.all_cons,cu]at f;rw[List.any_cons,List.any_cons,uJ r f.1,mw t f.2]
theorem iH{A:Around}{s:Shared}{x:V}{v:Value}(e:RelV x v)(d:dZ x=true):∀{xs:List V}{us:List Value},Vals xs us->xs.all dZ=true->∀u∈us,SeqAt.EqAt A s u v (xD x u)
 |_,_, .nil,_=>λu c=>by cases c
 |y::xs,u::us, .cons r t,f=>λg c=>by
  rw[List.all_cons,cu]at f;rcases List.mem_cons.mp c with rfl|c;·rw[uJ r f.1];exact vW r e f.1 d
  ·exact iH e d t f.2 g c
noncomputable def wq(x:V)(xs:List V):Bool:=xs.any λy=>vm y x
noncomputable def Ja(K:PySem.W.Frag)(neg:Bool):R2:=λx y H Q=>∃p xs,y= .ref p/\(bQ K H p xs\/eN K H p xs)/\dZ x=true/\xs.all dZ=true/\Q (.bl (if neg then !wq x xs else wq x xs)) H
theorem gw:ji X (compareOp .In) (Ja X.K false):=by
 intro pins s σ H x y v u Q I f i h;obtain⟨p,xs,rfl,hq,e,fs,q⟩:=h;cases i;rcases hq with hq|hq;·obtain⟨c,r,d,g⟩:=I.list hq;refine SeqAt.in_listAt (xD x) d.isList (λw hw=>iH f e r fs w (by simpa using hw)) ⟨.bl _,H,I,rfl,?_⟩;rw[show c.toArray.any (xD x)=c.any (xD x)by simp,mw r fs];exact q
 ·obtain⟨c,r,d,g⟩:=I.tuple hq;refine SeqAt.in_tupleAt (xD x) d (λw hw=>iH f e r fs w (by simpa using hw)) ⟨.bl _,H,I,rfl,?_⟩;rw[show c.toArray.any (xD x)=c.any (xD x)by simp,mw r fs];exact q
theorem ba:g4 X (.builtin "len") (λxs H Q=>∃p c,xs=[.ref p]/\(bQ X.K H p c\/eN X.K H p c)/\Q (.int c.length) H):=by
 intro pins s σ H xs us Q I r h;obtain⟨p,c,rfl,hq,q⟩:=h;obtain⟨u,rfl,i⟩:=vals1 r;cases i;have hn:=gA;rcases hq with hq|hq;·obtain⟨g,e,d,f⟩:=I.list hq;have hlen:=e.length;exact Calls.call_len_list d.isList (by simp only[bY]<;>lia) ⟨.int c.length,H,I.tok _,⟨s.toks+1,by rw[bY,hlen]⟩,q⟩
 ·obtain⟨g,e,d,f⟩:=I.tuple hq;have hlen:=e.length;exact len_tuple d (by simp only[bY]<;>lia) ⟨.int c.length,H,I.tok _,⟨s.toks+1,by rw[bY,hlen]⟩,q⟩
theorem ma:g4 X (.builtin "len") (λxs H Q=>∃z,xs=[.str z]/\z.length<=sizeLine/\Q (.int z.length) H):=by intro pins s σ H xs us Q I r h;obtain⟨z,rfl,c,q⟩:=h;obtain⟨u,rfl,t,rfl⟩:=vals1 r;have hn:=gA;exact len_str (by lia) ⟨.int z.length,H,I.tok _,⟨_,rfl⟩,q⟩
theorem kW:g4 X (.type "list") (λxs H Q=>∃p g,xs=[.ref p]/\(bQ X.K H p g\/eN X.K H p g)/\∀l,H l=none->Q (.ref l) (upd H l (.lst g))):=by
 intro pins s σ H xs us Q I r h;obtain⟨p,g,rfl,hq,q⟩:=h;obtain⟨u,rfl,k⟩:=vals1 r;cases k;have fin:∀(c:List Value),Vals g c->g.length<=sizeLine->∀(h':Heap)(d:Nat),(∀b o',s.heap.get? b=some o'->h'.get? b=some o')->h'.get? s.heap.objs.size=some {cls:= .type "list",dict:=none,data:= .seq c.toArray d,slots:=#[]}->EP X pins σ Q (.ref s.heap.objs.size) {s with heap:=h'}:=λc f i h' d kp e=>⟨.ref s.heap.objs.size,_,I.laid (t':=s.toks) kp (zQ04 _) (show br X.prog X.w _ h' _ (.lst g)from⟨i,c,d,f,e⟩),rfl,q _ (I.bD.fresh (zQ04 _))⟩;rcases hq with hq|hq;·obtain⟨c,f,j,i⟩:=I.list hq;have hlen:=f.length;obtain⟨o,ho,hc,n,hd⟩:=j.isList;exact call_list_seq p (.inl rfl) ho hc hd (λh' d kp e=>fin c f i h' d kp e) (by simp only[bY]<;>lia)
 ·obtain⟨c,f,j,i⟩:=I.tuple hq;have hlen:=f.length;obtain⟨o,ho,hc,n,hd⟩:=j;exact call_list_seq p (.inr rfl) ho hc hd (λh' d kp e=>fin c f i h' d kp e) (by simp only[bY]<;>lia)
theorem dz:g4 X (.type "tuple") (λxs H Q=>∃p c,xs=[.ref p]/\((bQ X.K H p c/\∀l,H l=none->Q (.ref l) (upd H l (.tup c)))\/(eN X.K H p c/\Q (.ref p) H))):=by
 intro pins s σ H xs us Q I r h;obtain⟨p,c,rfl,h⟩:=h;obtain⟨u,rfl,m⟩:=vals1 r;cases m;rcases h with⟨hq,q⟩|⟨hq,q⟩;·obtain⟨d,g,f,j⟩:=I.list hq;have hlen:=g.length;refine call_tuple_list f.isList (λh' kp=>?_) (by simp only[bY]<;>lia);have i:Inv X pins σ H {s with heap:=h'}:=I.kept (t':=s.toks) kp;have k:Inv X pins σ (upd H h'.objs.size (.tup c)) {s with heap:=h'.push {cls:= .type "tuple",data:= .seq d.toArray}}:=i.laid (t':=s.toks) (λb o e=>zQ01 _ e) (zQ04 _) (show br X.prog X.w _ _ _ (.tup c)from⟨j,d,g,IsTup.new _ _⟩);exact⟨.ref h'.objs.size,_,k,rfl,q _ (i.bD.fresh (zQ04 _))⟩
 ·obtain⟨d,g,f,j⟩:=I.tuple hq;exact call_tuple_same f ⟨.ref p,H,I,rfl,q⟩
def IT(K:PySem.W.Frag)(T:String)(x:V)(H:Hp):Prop:=match x with| .str _=>T="str"| .int _=>T="int"| .ref p=>(T="list"/\∃xs,bQ K H p xs)\/(T="tuple"/\∃o,K.lookup p=some o/\o.cls= .type "tuple"/\o.dict=none)\/(T="dict"/\((∃aL,H p=some (.dK aL))\/∃aL,H p=some (.dT aL)))\/(T="set"/\∃S n,H p=some (.set S n))|_=>False
theorem AB{pins:List (Addr×Obj)}{σ:St}{H:Hp}{s:Shared}{T:String}{x:V}{v:Value}(I:Inv X pins σ H s)(r:RelV x v)(ty:IT X.K T x H):s.TypeIs v T/\∀a,v= .ref a->∃ob,s.heap.get? a=some ob/\ob.dict=none:=by
 cases x with
  |str z=>obtain⟨t,rfl⟩:=r;cases(show T="str"from ty);exact⟨typeIs_str s z t,λ_ e=>nomatch e⟩
  |int i=>obtain⟨t,rfl⟩:=r;cases(show T="int"from ty);exact⟨typeIs_int s i t,λ_ e=>nomatch e⟩
  |ref p=>
   cases r;rcases ty with⟨rfl,xs,hq⟩|⟨rfl,o,d,hc,hd⟩|⟨rfl,d⟩|⟨rfl,S,n,d⟩;·obtain⟨h,_,g,_⟩:=I.list hq;refine⟨g.isList.typeIs,λa e=>?_⟩;cases e;obtain⟨o,n,e,c,hd,_⟩:=g;exact⟨o,e,hd⟩
   ·refine⟨⟨o,I.j_ p o d,hc⟩,λa e=>?_⟩;cases e;exact⟨o,I.j_ _ o d,hd⟩
   ·have z:∃o,s.heap.get? p=some o/\o.ExactDict:=by
     rcases d with⟨aL,d⟩|⟨aL,d⟩;·obtain⟨_,_,_,_,o,_,_,e,ex,_⟩:=I.bD p _ d;exact⟨o,e,ex⟩
     ·obtain⟨_,_,_,_,o,_,_,e,ex,_⟩:=I.bD p _ d;exact⟨o,e,ex⟩
    obtain⟨o,e,ex⟩:=z;refine⟨⟨o,e,ex.1⟩,λa f=>?_⟩;cases f;exact⟨o,e,ex.2.1⟩
   ·obtain⟨o,_,_,_,e,ex,_⟩:=I.bD p _ d;refine⟨⟨o,e,ex.1⟩,λa f=>?_⟩;cases f;exact⟨o,e,ex.2.1⟩
  |_=>exact False.elim ty
noncomputable def Kz(K:PySem.W.Frag)(T:String)(r:V->List V->Hp->VK->Prop)(to:TE)(t:TA):TE:=λσ H Q=>to σ H λx c=>IT K T x c/\t σ c λxs d=>r x xs d Q
variable{o e:Expr}{es:List Expr}{to:TE}{t:TA}{name:Str}{apos cY:Pos}{T id:String}{r:V->List V->Hp->VK->Prop}
theorem yY(u:PlainAttrs T)(slot:Slot T name id)(q:typeOf (.builtin id)=pure (.type "method_descriptor"))(hm:JV X id r)(ho:PE X o to)(ha:PA X (e::es) t)(k:attributeBase o name X.env (eval o X.env)=eval o X.env:=by rfl)(l:((backTo cY (starEach (e::es) X.env)).all (λx=>!x.1)&&(backToKw cY (keywordEach [] X.env)).all (λx=>x.1.isSome)&&decide ((e::es).length+([]:List Keyword).length+(if([]:List Keyword).isEmpty then 0 else 1)<30))=true:=by rfl)(m:(apos.endLine==cY.line)=true:=by rfl)(p:starEach (e::es) X.env=(false,eval e X.env)::starEach es X.env:=by rfl)(n:(backTo cY (starEach es X.env)).any (·.1)=false:=by rfl):PE X (.Call (.Attribute o name apos) (e::es) [] cY) (Kz X.K T r to t):=by intro pins s σ H Q I h;refine wpAny_Call_method_late k l m rfl (bp (ho pins s σ H _ I h) λv s1 y=>?_);obtain⟨x,g,c,f,ty,q1⟩:=y;obtain⟨h1,h2⟩:=AB c f ty;refine⟨T,id,u,slot,q,h1,h2,?_⟩;have d:=ha cY pins s1 σ g _ c q1;rw[p]at d⊢;refine Calls.callWith_builtin (by show(false||(backTo cY (starEach es X.env)).any (·.1))=false;rw[n]<;>rfl) (Calls.evalArgs_plain ?_);exact bp d λus s2⟨vs,i,j,w,q2⟩=>hm pins s2 σ i x vs v us Q j f w q2
end
noncomputable def JD(X:Cx)(id:String)(r:V->List V->Hp->VK->Prop):Prop:=∀(pins:List (Addr×Obj))(s:Shared)(σ:St)(H:Hp)(x:V)(xs:List V)(v:Value)(us:List Value)(Q:VK),Inv X pins σ H s->RelV x v->Vals xs us->r x xs H Q->wpAny (model X.prog X.w) X.A (call (.builtin id) (v::us)) (EP X pins σ Q) X.xe s
theorem Vals.one{x:V}{us:List Value}(h:Vals [x] us):∃u,us=[u]/\RelV x u:=by cases h with|cons r e=>cases e;exact⟨_,rfl,r⟩
theorem Vals.two{x y:V}{us:List Value}(h:Vals [x,y] us):∃u v,us=[u,v]/\RelV x u/\RelV y v:=by cases h with|cons r t=>cases t with|cons q e=>cases e;exact⟨_,_,rfl,r,q⟩
theorem Vals.rep{xs:List V}{us:List Value}(h:Vals xs us):∀k:Nat,Vals (eE k xs).flatten (eE k us).flatten|0=> .nil|k+1=>by rw[List.replicate_succ,List.replicate_succ,List.flatten_cons,List.flatten_cons];exact Vals.append h (Vals.rep h k)
theorem foldl_rep(b:List Value):∀(k:Nat)(a:List Value),List.foldl (λd f=>d++f) a.toArray (eE k b.toArray)=(a++(eE k b).flatten).toArray
 |0,a=>by simp
 |k+1,a=>by
  have e:a.toArray++b.toArray=(a++b).toArray:=by simp
  have c:(a++b)++(eE k b).flatten=a++(eE (k+1) b).flatten:=by rw[List.replicate_succ,List.flatten_cons,jR]
  rw[<-c,<-foldl_rep b k (a++b),<-e,List.replicate_succ,List.foldl_cons]
section
variable{X:Cx}{pins:List (Addr×Obj)}{σ:St}{H:Hp}{s:Shared}{l b:Addr}{xs ys zs:List V}
theorem Inv.D8{a its':List Value}{n:Nat}{f:Array Value->Array Value}{t':Nat}(I:Inv X pins σ H s)(hH:H l=some (.lst xs))(e:s.heap.get? l=some {cls:= .type "list",data:= .seq a.toArray n})(c:f a.toArray=its'.toArray)(hv:Vals ys its')(g:ys.length<=sizeLine):Inv X pins σ (upd H l (.lst ys)) {s with heap:=s.heap.update l (Obj.mapSeq f),toks:=t'}:=by have q:=PySem.IsL.update e f;rw[c]at q;refine I.write (x:=l) (e:=l) (by rw[hH];exact trivial) (.inl rfl) (λh u hb d=>(pH s.heap (Obj.mapSeq f) (Ne.symm hb)).trans d) ⟨_,q⟩ ?_;exact⟨g,its',_,hv,q⟩
theorem Inv.wO{a:List Value}{t':Nat}(I:Inv X pins σ H s)(hv:Vals ys a)(c:ys.length<=sizeLine):Inv X pins σ (upd H s.heap.objs.size (.lst ys)) {s with heap:=s.heap.push {cls:= .type "list",data:= .seq a.toArray},toks:=t'}:=I.laid (λ_ _ q=>zQ01 _ q) (zQ04 _) ⟨c,a,0,hv,zQ09 _ rfl⟩
theorem Inv.fresh(I:Inv X pins σ H s):H s.heap.objs.size=none:=I.bD.fresh (zQ04 _)
theorem Inv.tI(I:Inv X pins σ H s)(hH:H l=some (.lst xs)):xs.length<=sizeLine/\∃(a:List Value)(n:Nat),Vals xs a/\xs.length=a.length/\s.heap.get? l=some {cls:= .type "list",data:= .seq a.toArray n}:=by obtain⟨z,a,n,r,e⟩:=I.bD l _ hH;exact⟨z,a,n,r,r.length,e⟩
theorem oG{n:Nat}(h:n<=sizeLine):Builtin.List.listTooLong n=false:=by unfold Builtin.List.listTooLong;exact decide_eq_false (by lia)
end
section
variable{X:Cx}
noncomputable def xN:V->List V->Hp->VK->Prop:=λx vs H Q=>∃l xs y,x= .ref l/\vs=[y]/\H l=some (.lst xs)/\xs.length<sizeLine/\Q .bj (upd H l (.lst (xs++[y])))
theorem gD:JD X "list.append" xN:=by intro pins s σ H x vs v us Q I d c h;obtain⟨l,xs,y,rfl,rfl,hH,f,q⟩:=h;cases d;obtain⟨u,rfl,b⟩:=c.one;obtain⟨z,a,n,r,hl,e⟩:=I.tI hH;refine call_meets F.slot_list_append ⟨_,e,rfl⟩ F.entry_list_append (F.args_list_append_2 _ _) (PySem.list_append l a.toArray n u (by rw[bY];lia)) ⟨e,?_⟩;refine⟨.bj,_,I.D8 (its':=a++[u]) hH e (by simp) (r.append (.cons b .nil)) ?_,rfl,q⟩;rw[gf,List.length_singleton];lia
noncomputable def xC:V->List V->Hp->VK->Prop:=λx vs H Q=>∃l b xs a,x= .ref l/\vs=[.ref b]/\H l=some (.lst xs)/\H b=some (.lst a)/\xs.length+a.length<=sizeLine/\Q .bj (upd H l (.lst (xs++a)))
theorem sg:JD X "list.extend" xC:=by
 intro pins s σ H x vs v us Q I p o h;obtain⟨l,b,xs,A,rfl,rfl,hH,f,w,q⟩:=h;cases p;obtain⟨u,rfl,m⟩:=o.one;cases m;obtain⟨z,a,n,r,hl,e⟩:=I.tI hH;obtain⟨y,c,j,k,t,d⟩:=I.tI f;have i:a.toArray.size+c.toArray.size<=sizeLine:=by rw[bY,bY];lia
 have g:¬(!a.toArray.isEmpty&&Builtin.List.listTooLong (a.toArray.size+c.toArray.size))=true:=by rw[oG i,Bool.and_false];exact cJ
 refine call_meets F.slot_list_extend ⟨_,e,rfl⟩ F.entry_list_extend (F.args_list_extend_2 _ _) (AutoSeq1.list_extend_list_list_0 l a.toArray n b c.toArray j g (by rw[bY];lia) (by lia)) ⟨e,d,?_⟩;refine⟨.bj,_,I.D8 (its':=a++c) hH e (by simp) (r.append k) ?_,rfl,q⟩;rw[gf];lia
noncomputable def Hl:R2:=λx y H Q=>∃l b xs a,x= .ref l/\y= .ref b/\H l=some (.lst xs)/\H b=some (.lst a)/\xs.length+a.length<=sizeLine/\∀p,H p=none->Q (.ref p) (upd H p (.lst (xs++a)))
theorem oZ:ji X (binaryOp .Add) Hl:=by
 intro pins s σ H x y v u Q I j k h;obtain⟨l,b,xs,w,rfl,rfl,hH,g,o,q⟩:=h;cases j;cases k;obtain⟨z,a,n,r,hl,e⟩:=I.tI hH;obtain⟨t,c,p,i,m,d⟩:=I.tI g;refine PySem.P.add_list e d ?_ (by rw[bY,bY];lia);have f:a.toArray++c.toArray=(a++c).toArray:=by simp
 rw[f];exact⟨.ref _,_,I.wO (t':=s.toks) (r.append i) (by rw[gf];lia),rfl,q _ I.fresh⟩
noncomputable def Gy:R2:=λx y H Q=>∃l k xs,x= .ref l/\y= .int k/\H l=some (.lst xs)/\-(2^63)<=k/\k<2^63/\xs.length*k.toNat<=sizeLine/\∀p,H p=none->Q (.ref p) (upd H p (.lst (eE k.toNat xs).flatten))
theorem len_rep{b:Type}(xs:List b)(k:Nat):(eE k xs).flatten.length=k*xs.length:=by induction k with|zero=>simp|succ k a=>rw[List.replicate_succ,List.flatten_cons,gf,a,Nat.succ_mul,Nat.add_comm]
theorem pB:ji X (binaryOp .Mult) Gy:=by
 intro pins s σ H x y v u Q I w A h;obtain⟨l,k,xs,rfl,rfl,hH,h1,h2,f,q⟩:=h;cases w;obtain⟨t,rfl⟩:=A;obtain⟨z,b,n,r,hl,e⟩:=I.tI hH;have hlen:b.toArray.size*k.toNat<=sizeLine:=by rw[bY,<-hl];exact f
 have i:¬b.toArray.size*k.toNat>(2^63-1)/8:=by
  have :(sizeLine:Nat)<=(2^63-1)/8:=by decide
  lia
 have j:¬(!Builtin.List.listFitsIndex k)=true:=by rw[fitsIndex_both h1 h2];exact cJ
 have o:¬Builtin.List.listTooLong (b.toArray.size*k.toNat)=true:=by rw[oG hlen];exact cJ
 have p:List.foldl (λc d=>c++d) #[] (eE (if b.toArray.isEmpty=true then 0 else k.toNat) b.toArray)=(eE k.toNat b).flatten.toArray:=by
  have g:∀m:Nat,List.foldl (λc d=>c++d) #[] (eE m b.toArray)=(eE m b).flatten.toArray:=λm=>by have :=foldl_rep b m [];rw[List.nil_append]at this;exact this
  rw[g];cases b with|nil=>simp|cons a B=>rw[if_neg (by simp)]
 refine wpAny_binaryOp_repeat_ref (T:="list") (U:="int") (by decide) ⟨_,e,rfl⟩ (λs'=>typeIs_int s' k t) noFill_list_mul F.fills_int_mul F.slot_int_rmul repeat_list F.slot_int_index.lookup (call_meets F.slot_int_rmul (typeIs_int s k t) F.entry_int_rmul (F.args_int_rmul_2 _ _) (int___rmul___int_list k t l b.toArray n) ⟨e,rfl,⟨_,e,rfl⟩,call_meets F.slot_list_mul ⟨_,e,rfl⟩ F.entry_list_mul (F.args_list_mul_2 _ _) (AutoListH.list___mul___list_int_3 l b.toArray n k t j i o) ⟨e,?_⟩⟩);rw[p];exact⟨.ref _,_,I.wO (t':=s.toks) (r.rep k.toNat) (by rw[len_rep,Nat.mul_comm];exact f),rfl,q _ I.fresh⟩
end
section
variable{prog:Program}{w:World}{A:Around}{E:Value->Shared->Prop}{s:Shared}
end
section
variable{X:Cx}
end
section
variable{κ:Type}[DecidableEq κ]
noncomputable def dB(aL:List (κ×V))(k:κ):Option V:=(aL.find? λkv=>decide (kv.1=k)).map (·.2)
noncomputable def putK(aL:List (κ×V))(k:κ)(v:V):List (κ×V):=if(aL.any λkv=>decide (kv.1=k))=true then aL.map (λkv=>if kv.1=k then(kv.1,v)else kv)else aL++[(k,v)]
theorem jE{p:κ×V}{r:List (κ×V)}{k:κ}(e:p.1=k):dB (p::r) k=some p.2:=by simp[dB,List.find?_cons,e]
theorem jr{p:κ×V}{r:List (κ×V)}{k:κ}(e:¬p.1=k):dB (p::r) k=dB r k:=by simp[dB,List.find?_cons,e]
theorem nW(k:κ):∀aL:List (κ×V),(aL.any λkv=>decide (kv.1=k))=(dB aL k).isSome
 |[]=>rfl
 |p::r=>by
  rw[List.any_cons];by_cases e:p.1=k;·simp only[jE e,decide_eq_true e,Bool.true_or,Option.isSome_some]
  ·rw[jr e,decide_eq_false e,Bool.false_or];exact nW k r
theorem m7(aL:List (κ×V))(k:κ)(v:V):(putK aL k v).length<=aL.length+1:=by
 unfold putK;split;·rw[dA];lia
 ·rw[gf,ig,List.length_nil];lia
theorem gp.j9{o:Option V}{u:Option Value}(r:gp o u):o.isSome=u.isSome:=by
 cases o with
  |none=>cases u with|none=>rfl|some _=>exact(show False from r).elim
  |some _=>cases u with|none=>exact(show False from r).elim|some _=>rfl
theorem gp.getD{o:Option V}{u:Option Value}{d:V}{d':Value}(r:gp o u)(a:RelV d d'):RelV (o.getD d) (u.getD d'):=by
 cases o with
  |none=>cases u with|none=>exact a|some _=>exact(show False from r).elim
  |some _=>cases u with|none=>exact(show False from r).elim|some _=>exact r
theorem KV.val{aL:List (κ×V)}{vs:List (κ×Value)}(r:KV aL vs)(k:κ):gp (dB aL k) (valueAt vs k):=by
 unfold KV at r;induction r with
  |nil=>exact True.intro
  |@cons p q ps c h t d=>
   obtain⟨h1,h2⟩:=h;by_cases e:p.1=k
   ·have a:q.1=k:=h1.symm.trans e;have b:valueAt (q::c) k=some q.2:=by simp[valueAt,List.find?_cons,a]
    rw[jE e,b];exact h2
   ·have a:¬q.1=k:=λz=>e (h1.trans z);have b:valueAt (q::c) k=valueAt c k:=by simp[valueAt,List.find?_cons,a]
    rw[jr e,b];exact d
theorem KV.any{aL:List (κ×V)}{vs:List (κ×Value)}(r:KV aL vs)(k:κ):(aL.any λkv=>decide (kv.1=k))=vs.any λkv=>decide (kv.1=k):=by unfold KV at r;induction r with|nil=>rfl|cons h t a=>rw[List.any_cons,List.any_cons,a,h.1]
theorem KV.GF{aL:List (κ×V)}{vs:List (κ×Value)}(r:KV aL vs)(k:κ){y:V}{u:Value}(b:RelV y u):KV (aL.map λkv=>if kv.1=k then(kv.1,y)else kv) (vs.map λkv=>if kv.1=k then(kv.1,u)else kv):=by
 unfold KV at r⊢;induction r with
  |nil=>exact .nil
  |@cons p q ps c h t a=>
   rw[eX,eX];refine .cons ?_ a;obtain⟨h1,h2⟩:=h;by_cases e:p.1=k;·rw[if_pos e,if_pos (h1.symm.trans e)];exact⟨h1,b⟩
   ·rw[if_neg e,if_neg (λz=>e (h1.trans z))];exact⟨h1,h2⟩
theorem KV.put{aL:List (κ×V)}{vs:List (κ×Value)}(r:KV aL vs)(k:κ){y:V}{u:Value}(a:RelV y u):KV (putK aL k y) (stored vs k u):=by
 unfold putK stored;rw[r.any k];by_cases e:(vs.any λkv=>decide (kv.1=k))=true;·rw[if_pos e,if_pos e];exact r.GF k a
 ·rw[if_neg e,if_neg e];exact Paired.snoc r ⟨rfl,a⟩
end
theorem nQ{P:Program}{w:World}{k:Key}{u:Value}(r:RelV (kV k) u):(bx P w).is k u=true:=by cases k with|inl i=>obtain⟨t,e⟩:=(show∃t,u=Value.int i t from r);subst e;exact oo P w i t|inr x=>obtain⟨t,e⟩:=(show∃t,u=Value.str x t from r);subst e;exact nB P w x t
theorem kh{P:Program}{w:World}:∀{ks:List Key}{us:List Value},Vals (ks.map kV) us->ItemsAre (bx P w) ks us|[],_,r=>by rw[List.map_nil]at r;cases r;exact .nil|k::ks,_,r=>by rw[eX]at r;cases r with|cons h t=>exact .cons (nQ h) (kh t)
noncomputable abbrev KT(H:Hp):List (List Key×V)->List (List Key×Addr×Value)->Prop:=Paired λp q=>p.1=q.1/\H q.2.1=some (.tup (p.1.map kV))/\RelV p.2 q.2.2
theorem KT.val{H:Hp}{aL:List (List Key×V)}{xs:List (List Key×Addr×Value)}(r:KT H aL xs)(k:List Key):gp (dB aL k) ((atKey xs k).map (·.2)):=by
 induction r with
  |nil=>exact True.intro
  |@cons p q ps c h t d=>
   obtain⟨h1,_,h2⟩:=h;by_cases e:p.1=k
   ·have a:q.1=k:=h1.symm.trans e;have b:atKey (q::c) k=some q.2:=by simp[atKey,List.find?_cons,a]
    rw[jE e,b];exact h2
   ·have a:¬q.1=k:=λz=>e (h1.trans z);have b:atKey (q::c) k=atKey c k:=by simp[atKey,List.find?_cons,a]
    rw[jr e,b];exact d
section
variable{P:Program}{w:World}{H:Hp}{h:Heap}{a:Addr}
theorem yE{u:HO}(ok:ff P w H h)(e:Rd H a u):br P w H h a u:=e.ok ok
theorem j5{aL:List (Key×V)}(ok:ff P w H h)(e:Rd H a (.dK aL)):aL.length<=sizeLine/\(a==sysModules)=false/\∃vs,KV aL vs/\h.DictOf (bx P w) a vs:=show br P w H h a (.dK aL)from yE ok e
theorem BF{aL:List (Key×V)}(ok:ff P w H h)(e:H a=some (.dK aL)):aL.length<=sizeLine/\(a==sysModules)=false/\∃vs,KV aL vs/\h.DictOf (bx P w) a vs:=j5 ok (.inl e)
theorem lR{ks:List Key}(ok:ff P w H h)(e:H a=some (.tup (ks.map kV))):(tupleKind (bx P w)).is h ks a:=by obtain⟨_,b,r,o,h1,h2,n,h3⟩:=(show br P w H h a (.tup (ks.map kV))from ok a _ e);exact⟨o,b.toArray,n,h1,h2,h3,by simpa using kh r⟩
theorem og{aL:List (List Key×V)}(ok:ff P w H h)(e:Rd H a (.dT aL)):aL.length<=sizeLine/\(a==sysModules)=false/\∃xs,KT H aL xs/\h.DictOfH (tupleKind (bx P w)) a xs:=by
 obtain⟨z,y,xs,r,o,es,ep,h1,h2,h3,h4,h5⟩:=(show br P w H h a (.dT aL)from yE ok e);refine⟨z,y,xs,r,o,es,ep,h1,h2,h3,h4,λx b=>?_,h5⟩;have all:∀{l:List (List Key×V)}{m:List (List Key×Addr×Value)},KT H l m->∀x∈m,(tupleKind (bx P w)).is h x.1 x.2.1:=by
  intro l m q;induction q with
   |nil=>intro x b;exact nomatch b
   |@cons p q ps d hq t c=>
    intro x b;rcases List.mem_cons.mp b with e|b;·subst e;exact lR ok (by rw[<-hq.1];exact hq.2.1)
    ·exact c x b
 exact all r x b
end
noncomputable def fV(H:Hp)(a:Addr)(y:V)(r:Option V):Prop:=(∃aL k,Rd H a (.dK aL)/\y=kV k/\r=dB aL k)\/∃aL k b,Rd H a (.dT aL)/\y= .ref b/\H b=some (.tup (k.map kV))/\r=dB aL k
theorem fV.k{H:Hp}{a:Addr}{aL:List (Key×V)}{k:Key}(e:H a=some (.dK aL)):fV H a (kV k) (dB aL k):= .inl ⟨aL,k, .inl e,rfl,rfl⟩
section
variable{X:Cx}{pins:List (Addr×Obj)}{σ:St}{H:Hp}{s:Shared}{a:Addr}{y v:V}{u r:Value}{o:Option V}{A:Around}{E:Value->Shared->Prop}
theorem Inv.big(I:Inv X pins σ H s):sysModules<s.heap.objs.size:=by have h:mainGlobals<s.heap.objs.size:=(I.mod.glob.keeps I.bk).lt;exact Nat.lt_trans (by decide) h
theorem sT{Q:Value->Shared->Prop}(t:A.units+1<cLine)(I:Inv X pins σ H s)(g:fV H a y (some v))(j:RelV y u)(h:∀c s',Inv X pins σ H s'->RelV v c->Q c s'):wpAny (model X.prog X.w) A (getItem (.ref a) u) Q E s:=by
 rcases g with⟨aL,k,e,f,l⟩|⟨aL,k,b,e,f,m,l⟩;·subst f;obtain⟨z,hd,vs,rel,d⟩:=j5 I.bD e;obtain⟨c,hw,i⟩:=gp.some_of (v:=v) (o:=valueAt vs k) (by rw[l];exact rel.val k);exact wpAny_getItem_of (nQ j) d.mapOf hw (h c _ (I.tok _) i)
 ·subst f;cases(show u=Value.ref b from j);obtain⟨z,hd,xs,rel,d⟩:=og I.bD e;obtain⟨c,hw,i⟩:=gp.some_of (v:=v) (o:=(atKey xs k).map (·.2)) (by rw[l];exact rel.val k);obtain⟨p,n,q⟩:=Option.map_eq_some_iff.mp hw;refine wpAny_getItem_heap (tupleKind_room_in1 t) (lR I.bD m) d n ?_;rw[q];exact h c _ (I.tok _) i
theorem Fm{Q:Value->Shared->Prop}(j:A.units+1<cLine)(I:Inv X pins σ H s)(g:fV H a y o)(f:RelV y u)(h:∀s',Inv X pins σ H s'->Q (.bool o.isSome) s'):wpAny (model X.prog X.w) A (compareOp .In u (.ref a)) Q E s:=by
 rcases g with⟨aL,k,e,d,l⟩|⟨aL,k,b,e,d,i,l⟩;·subst d;obtain⟨z,hd,vs,rel,c⟩:=j5 I.bD e;refine wpAny_in_of (nQ f) hd c.mapOf ?_;rw[<-(rel.val k).j9,<-l];exact h _ (I.tok _)
 ·subst d;cases(show u=Value.ref b from f);obtain⟨z,hd,xs,rel,c⟩:=og I.bD e;refine wpAny_in_heap (tupleKind_room_in1 j) (lR I.bD i) hd c ?_;have q:=(rel.val k).j9;rw[Option.isSome_map]at q;rw[<-q,<-l];exact h _ (I.tok _)
theorem xr{h':Heap}{t':Nat}{ob:HO}(I:Inv X pins σ H s)(d:B_ (H a))(c:Heap.SameBut a s.heap h')(he:∃q,h'.get? a=some q)(new:br X.prog X.w (upd H a ob) h' a ob):Inv X pins σ (upd H a ob) {s with heap:=h',toks:=t'}:=I.write (x:=a) (e:=a) d (.inl rfl) (λb q hb z=>(c.2 b hb).trans z) he new
theorem zP{P:Program}{w:World}{H':Hp}{h':Heap}{aL:List (Key×V)}{vs:List (Key×Value)}(z:aL.length<=sizeLine)(hd:(a==sysModules)=false)(rel:KV aL vs)(b:h'.DictOf (bx P w) a vs):br P w H' h' a (.dK aL):=⟨z,hd,vs,rel,b⟩
end
section
variable{X:Cx}{pins:List (Addr×Obj)}{σ:St}{H:Hp}{s:Shared}{a:Addr}{aL:List (Key×V)}{k:Key}{u:Value}{A:Around}{E:Value->Shared->Prop}
end
def AE(i:Expr):Prop:=∀b a,subscripted i false b a=operate [b,a] (getItem b a)
theorem rg{prog:Program}{w:World}{A:Around}{E:Value->Shared->Prop}{s:Shared}{env:Env}{value slice:Expr}{f:Pos}{T id:String}{Q:Value->Shared->Prop}(hl:typeLookup (.type T) "__getitem__"=pure (some (.builtin id)))(c:AE slice)(h:wpAny (model prog w) A (eval value env) (λo s₁=>wpAny (model prog w) A (eval slice env) (λi s₂=>s₂.TypeIs o T/\wpAny (model prog w) A (getItem o i) Q E s₂) E s₁) E s):wpAny (model prog w) A (eval (.Subscript value slice f) env) Q E s:=by
 refine Subscript_ (wpAny_mono h (λo s₁ d=>wpAny_mono d (λi s₂ a=>?_) λ_ _ x=>x) λ_ _ x=>x);obtain⟨hT,a⟩:=a;unfold subscriptTail;refine zQ00 ?_;rw[getitemInPython_of_ne hT.not_modules];refine zQ00 (wpAny_specialOf hT hl ?_);have fin:wpAny (model prog w) A (subscripted slice false o i) (λr b=>wpAny (model prog w) A (letTemporaryGo value o r>>=λ_=>pure r) Q E b) E s₂:=by rw[c o i];exact wpAny_operating (wpAny_mono a (λr b e=>zQ00 (wpAny_letTemporaryGo (zQ02 e))) λ_ _ x=>x)
 first|exact zQ02 (zQ00 fin)|exact zQ00 (zQ02 (zQ00 fin))|exact zQ00 fin
theorem nr{X:Cx}{pins:List (Addr×Obj)}{σ:St}{H:Hp}{s:Shared}{a:Addr}{y:V}{o:Option V}(I:Inv X pins σ H s)(g:fV H a y o):s.TypeIs (.ref a) "dict":=by
 rcases g with⟨aL,k,e,_,_⟩|⟨aL,k,b,e,_,_,_⟩;·obtain⟨_,_,vs,_,c⟩:=j5 I.bD e;exact c.typeIs
 ·obtain⟨_,_,xs,_,c⟩:=og I.bD e;exact c.typeIs
noncomputable def Ci(d ty:TE):TE:=λσ H Q=>d σ H λx c=>ty σ c λy b=>∃a v,x= .ref a/\fV b a y (some v)/\Q v b
noncomputable def Gi(ty d:TE):TE:=λσ H Q=>ty σ H λy c=>d σ c λx b=>∃a o,x= .ref a/\fV b a y o/\Q (.bl o.isSome) b
section
variable{X:Cx}{o i e value:Expr}{pos pos' zG:Pos}{td ty tv:TE}
theorem rW(l:X.A.units+1<cLine)(ho:PE X o td)(hi:PE X i ty)(k:AE i):PE X (.Subscript o i pos) (Ci td ty):=by intro pins s σ H Q I h;refine rg PySem.F.slot_dict_getitem.lookup k (bp (ho pins s σ H _ I h) λu s1⟨x,c,f,n,q1⟩=>bp (hi pins s1 σ c _ f q1) λr s2 q=>?_);obtain⟨y,d,b,p,a,v,ex,g,q2⟩:=q;subst ex;obtain rfl:u=Value.ref a:=n;exact⟨nr b g,sT l b g p λw t j m=>⟨v,d,j,m,q2⟩⟩
theorem uQ(k:X.A.units+1<cLine)(hi:PE X i ty)(ho:PE X o td):PC X .In i o (Gi ty td):=by intro pins s σ H Q I h;refine bp (hi pins s σ H _ I h) λq s1⟨y,b,d,n,q1⟩=>bp (ho pins s1 σ b _ d q1) λu s2 p=>?_;obtain⟨x,c,f,m,a,l,ex,g,q2⟩:=p;subst ex;obtain rfl:u=Value.ref a:=m;exact Fm k f g n λr j=>⟨.bl l.isSome,c,j,rfl,q2⟩
end
theorem vC{P:Program}{w:World}{H:Hp}(h:Heap)(hb:sysModules<h.objs.size):br P w H (h.push {cls:= .type "dict",data:= .dict #[]}) h.objs.size (.dK []):=⟨zQ08 _,beq_eq_false_iff_ne.mpr (Ne.symm (zQ15 hb)),[], .nil,Heap.DictOf.new h⟩
section
variable{X:Cx}{pos:Pos}
end
noncomputable def o_:List (TE×TE)->St->Hp->(List (V×V)->Hp->Prop)->Prop|[],_,H,Q=>Q [] H|(tk,d)::r,σ,H,Q=>tk σ H λx a=>d σ a λy b=>o_ r σ b λps c=>Q ((x,y)::ps) c
noncomputable abbrev VV:List (V×V)->List (Value×Value)->Prop:=Paired λp q=>RelV p.1 q.1/\RelV p.2 q.2
noncomputable def uY(X:Cx)(a:Pos)(keys:List (Option Expr))(values:List Expr)(b:List (TE×TE)):Prop:=∀(pins:List (Addr×Obj))(s:Shared)(σ:St)(H:Hp)(Q:List (V×V)->Hp->Prop),Inv X pins σ H s->o_ b σ H Q->wpAny (model X.prog X.w) X.A (evalPairs (pairTrees keys values X.env a)) (λvs s'=>∃ps H',Inv X pins σ H' s'/\VV ps vs/\Q ps H') X.xe s
theorem mn{X:Cx}{a:Pos}:uY X a [] [] []:=λpins s σ H Q I h=>pairTrees_nil_walk ⟨[],H,I, .nil,h⟩
theorem aQ{X:Cx}{a:Pos}{k v:Expr}{ks:List (Option Expr)}{vs:List Expr}{tk c:TE}{b:List (TE×TE)}(l:PE X k tk)(hv:PE X v c)(hr:uY X a ks vs b):uY X a (some k::ks) (v::vs) ((tk,c)::b):=λpins s σ H Q I h=>pairTrees_cons_walk (bp (l pins s σ H _ I h) λu s1⟨x,d,g,m,q1⟩=>bp (hv pins s1 σ d _ g q1) λp s2⟨y,e,i,n,q2⟩=>bp (hr pins s2 σ e _ i q2) λq o⟨ps,f,j,rel,q3⟩=>⟨(x,y)::ps,f,j, .cons ⟨m,n⟩ rel,q3⟩)
noncomputable def eB(aL more:List (Key×V)):List (Key×V):=more.foldl (λa kv=>putK a kv.1 kv.2) aL
theorem KV.merge:∀{more:List (Key×V)}{rs:List (Key×Value)}{aL:List (Key×V)}{vs:List (Key×Value)},KV more rs->KV aL vs->KV (eB aL more) (merged vs rs):=by
 intro more rs aL vs r;unfold KV at r;induction r generalizing aL vs with
  |nil=>intro q;exact q
  |@cons p q ps b h t a=>
   intro r0;have e:KV (putK aL p.1 p.2) (stored vs q.1 q.2):=by have :=r0.put p.1 h.2;rw[<-h.1];exact this
   exact a e
theorem fb:∀(more aL:List (Key×V)),(eB aL more).length<=aL.length+more.length|[],aL=>by show aL.length<=aL.length+0;lia|p::r,aL=>by have h1:=fb r (putK aL p.1 p.2);have h2:=m7 aL p.1 p.2;show(eB (putK aL p.1 p.2) r).length<=_;rw[ig];lia
theorem iL{P:Program}{w:World}:∀{aL:List (Key×V)}{d:List (Value×Value)},VV (aL.map λkv=>(kV kv.1,kv.2)) d->∃rs,Carries (bx P w) d rs/\KV aL rs|[],_,r=>by rw[List.map_nil]at r;cases r;exact⟨[],True.intro, .nil⟩|p::aL,_,r=>by rw[eX]at r;cases r with|@cons a b as bs h t=>obtain⟨rs,c,q⟩:=iL (P:=P) (w:=w) t;obtain⟨f,e⟩:=b;exact⟨(p.1,e)::rs,⟨nQ h.1,rfl,c⟩, .cons ⟨rfl,h.2⟩ q⟩
noncomputable def Ei(b:List (TE×TE)):TE:=λσ H Q=>∀p,H p=none->o_ b σ (upd H p (.dK [])) λps a=>a p=some (.dK [])/\∃aL:List (Key×V),ps=aL.map (λkv=>(kV kv.1,kv.2))/\aL.length<=15/\Q (.ref p) (upd a p (.dK (eB [] aL)))
theorem k_{X:Cx}{f:Pos}{keys:List (Option Expr)}{values:List Expr}{g:List (TE×TE)}(h:uY X f keys values g)(m:keys.all (·.isSome)=true)(hl:keys.length=values.length)(k:keys≠[])(l:keys.length<=15):PE X (.Dict keys values f) (Ei g):=by
 intro pins s σ H Q I q;have hn:=I.bD.fresh (zQ04 s.heap.objs.size);have i:=I.laid (a:=s.heap.objs.size) (o:= .dK []) (h':=s.heap.push {cls:= .type "dict",data:= .dict #[]}) (t':=s.toks) (λ_ _ q=>zQ01 _ q) (zQ04 _) (vC s.heap I.big);refine wpAny_Dict_walk (knd:=bx X.prog X.w) m hl k l (bp (h pins _ σ _ _ i (q _ hn)) λy s2 t=>?_);obtain⟨ps,u,b,rel,e,aL,ep,v,q2⟩:=t;subst ep;obtain⟨rs,c,r⟩:=iL (P:=X.prog) (w:=X.w) rel;obtain⟨z,hd,x,r0,j⟩:=BF b.bD e;cases r0;refine⟨rs,c,j,λh' d n=>⟨.ref s.heap.objs.size,_,?_,rfl,q2⟩⟩;have p:(eB [] aL).length<=sizeLine:=by have h1:=fb aL [];rw[List.length_nil]at h1;rw[sizeLine_eq];lia
 have he:∃q,h'.get? s.heap.objs.size=some q:=let⟨q,_,_,hq,_⟩:=d;⟨q,hq⟩;exact xr b (by rw[e];exact True.intro) n he (zP p hd (r.merge .nil) d)
structure M1(X:Cx)(o:Expr)(m:Str)(apos:Pos)(e:Expr)(cY:Pos):Prop where
 base:attributeBase o m X.env (eval o X.env)=eval o X.env
 Gh:((backTo cY (starEach [e] X.env)).all (λx=>!x.1)&&(backToKw cY (keywordEach [] X.env)).all (λx=>x.1.isSome)&&decide (([e]:List Expr).length+([]:List Keyword).length+(if([]:List Keyword).isEmpty then 0 else 1)<30))=true
 line:(apos.endLine==cY.line)=true
 trees:backTo cY (starEach [e] X.env)=[(false,eval e X.env)]
structure M2(X:Cx)(o:Expr)(m:Str)(apos:Pos)(e f:Expr)(cY:Pos):Prop where
 base:attributeBase o m X.env (eval o X.env)=eval o X.env
 Gh:((backTo cY (starEach [e,f] X.env)).all (λx=>!x.1)&&(backToKw cY (keywordEach [] X.env)).all (λx=>x.1.isSome)&&decide (([e,f]:List Expr).length+([]:List Keyword).length+(if([]:List Keyword).isEmpty then 0 else 1)<30))=true
 line:(apos.endLine==cY.line)=true
 trees:backTo cY (starEach [e,f] X.env)=[(false,eval e X.env),(false,eval f X.env)]
def JA(H:Hp)(a:Addr):Prop:=(∃aL,Rd H a (.dK aL))\/∃aL,Rd H a (.dT aL)
theorem Az{X:Cx}{pins:List (Addr×Obj)}{σ:St}{H:Hp}{s:Shared}{a:Addr}(I:Inv X pins σ H s)(d:JA H a):s.TypeIs (.ref a) "dict"/\(∀b,Value.ref a= .ref b->∃ob,s.heap.get? b=some ob/\ob.dict=none)/\(a==sysModules)=false:=by
 rcases d with⟨aL,e⟩|⟨aL,e⟩;·obtain⟨_,hd,vs,_,c⟩:=j5 I.bD e;refine⟨c.typeIs,λb q=>?_,hd⟩;cases q;obtain⟨ob,_,_,h1,h2,_⟩:=c;exact⟨ob,h1,h2.2.1⟩
 ·obtain⟨_,hd,xs,_,c⟩:=og I.bD e;refine⟨c.typeIs,λb q=>?_,hd⟩;cases q;obtain⟨ob,_,_,h1,h2,_⟩:=c;exact⟨ob,h1,h2.2.1⟩
section
variable{X:Cx}{pins:List (Addr×Obj)}{σ:St}{H:Hp}{s:Shared}{a:Addr}{y d:V}{u r:Value}{o:Option V}{A:Around}{E:Value->Shared->Prop}
theorem A6{Q:Value->Shared->Prop}(p:A.units+1<cLine)(I:Inv X pins σ H s)(g:fV H a y o)(j:RelV y u)(i:RelV d r)(h:∀m s',Inv X pins σ H s'->RelV (o.getD d) m->Q m s'):wpAny (model X.prog X.w) A (call (.builtin "dict.get") [.ref a,u,r]) Q E s:=by
 rcases g with⟨aL,k,e,f,l⟩|⟨aL,k,b,e,f,n,l⟩;·subst f;obtain⟨z,hd,vs,rel,c⟩:=j5 I.bD e;refine call_meetsIn PySem.F.slot_dict_get c.typeIs PySem.F.entry_dict_get (PySem.F.args_dict_get_3 _ _ _) (meets_dict_get_default (bx X.prog X.w) a (nQ j) hd r) ⟨_,c.mapOf,h _ _ (I.tok _) ?_⟩;rw[l];exact(rel.val k).getD i
 ·subst f;cases(show u=Value.ref b from j);obtain⟨z,hd,xs,rel,c⟩:=og I.bD e;refine call_meetsIn PySem.F.slot_dict_get c.typeIs PySem.F.entry_dict_get (PySem.F.args_dict_get_3 _ _ _) (meetsH_dict_get_default (tupleKind (bx X.prog X.w)) a b hd r) ⟨tupleKind_room_in1 p,k,xs,lR I.bD n,c,h _ _ (I.tok _) ?_⟩;rw[l];exact(rel.val k).getD i
end
noncomputable def AR(e ty f:TE):TE:=λσ H Q=>e σ H λx b=>∃a,x= .ref a/\JA b a/\ty σ b λy d=>f σ d λz c=>∃o,fV c a y o/\Q (o.getD z) c
section
variable{X:Cx}{o e f:Expr}{apos cY:Pos}{td ty tx:TE}
theorem vP(q:X.A.units+1<cLine)(ho:PE X o td)(he:PE X e ty)(p:PE X f tx)(m:M2 X o "get" apos e f cY):PE X (.Call (.Attribute o "get" apos) [e,f] [] cY) (AR td ty tx):=by intro pins s σ H Q I h;refine wpAny_Call_method m.base m.Gh m.line PySem.F.plainAttrs_dict PySem.F.slot_dict_get PySem.F.type_dict_get (bp (ho pins s σ H _ I h) λu s1 C=>?_);obtain⟨x,c,b,t,a,ex,d,q1⟩:=C;subst ex;obtain rfl:u=Value.ref a:=t;obtain⟨A,B,_⟩:=Az b d;refine⟨A,B,?_⟩;rw[m.trees];refine Calls.callWith_builtin rfl (Calls.evalArgs_plain (Calls.spliced_cons (bp (he pins s1 σ c _ b q1) λE s2⟨y,i,k,v,q2⟩=>Calls.spliced_cons (bp (p pins s2 σ i _ k q2) λD G⟨z,j,l,w,F,g,q3⟩=>Calls.spliced_nil ?_))));exact A6 q l g v w λK J n r=>⟨_,j,n,r,q3⟩
end
section
variable{X:Cx}{pins:List (Addr×Obj)}{σ:St}{H:Hp}{s:Shared}{a:Addr}{aL:List (Key×V)}{A:Around}{E:Value->Shared->Prop}
end
section
variable{X:Cx}{pins:List (Addr×Obj)}{σ:St}{H:Hp}{s:Shared}{a:Addr}{y:V}{u:Value}{A:Around}{E:Value->Shared->Prop}
end
end L2
end
section
namespace HY
open PySem PySem.W PySem.Calls PyProof.Rows
theorem ie{P:Params}{h:Heap}:∀(ns:List Int)(vs:List Value),WellAll P h vs (ns.map WData.int)->IntsAre vs ns:=by intro ns;induction ns with|nil=>intro vs w;rw[List.map_nil]at w;cases w;exact .nil|cons n ns c=>intro vs w;rw[eX]at w;cases w with|cons a b=>cases a;exact .cons _ _ (c _ b)
theorem tG{l:OpenLaw}{n:Nat}(hn:l.most=some n){P:Params}{h:Heap}{args:List WData}{vals:List Value}(b:l.row.toRowW.claim.pre args=true)(f:WellAll P h vals args):∃a vs ns,vals=[Value.ref a]/\args=[WData.list (ns.map WData.int)]/\h.get? a=some {cls:= .type "list",data:= .seq vs.toArray}/\IntsAre vs ns/\ns.length<=n:=by
 have e:WShape.hasAll [] args [.list .int]=true:=(pre_splitW b).1;have hc:l.pre.holds [] {args:=args}=true:=(pre_splitW b).2;obtain⟨d,r,rfl,h1,h2⟩:=hasAllW_cons e;obtain rfl:=hasAllW_nil h2;obtain⟨xs,rfl,h3⟩:=hasW_list h1;obtain⟨ns,rfl⟩:=items_int h3;have hlen:ns.length<=n:=by
  unfold OpenLaw.pre at hc;have h4:(WTm.not (.lt (.lit (.int (n:Int))) (.len (.arg 0)))).holds [] {args:=[.list (ns.map .int)]}=true:=by have h4:=(holds_andW hc).1;rw[hn]at h4;exact h4
  have h5:=condW_of h4 (w_not (w_lt w_lit (w_len_list (w_arg rfl))));rw[dA]at h5;refine Nat.le_of_not_lt λq=>?_;have g:(n:Int)<((ns.length:Nat):Int):=by lia
  first|(rw[decide_eq_true g]at h5;exact absurd h5 (by decide))|(simp at h5;lia)
 cases f with|cons i j=>cases j;cases i with|list ho c=>exact⟨_,_,ns,rfl,rfl,ho,ie ns _ c,hlen⟩
theorem sM(l:OpenLaw)(args:List WData):l.row.toRowW.claim.post args (.bool true) args=true:=postW_of (r:=l.row.toRowW) (X:=(true==true)) (show WShape.has [] (.bool true) .bool=true by first|rfl|decide|simp[WShape.has,WShape.arms,WShape.armsAll]) (show(WTm.eq .res (.lit (.bool true))).value [] {args:=args,res:=some (.bool true),after:=args}=some (.bool (true==true))from w_eq_bool (w_res rfl) w_lit) rfl
theorem oH{l:OpenLaw}{n:Nat}{q:Program}{loose:List Str}{XP:(Str->Option Value)->Heap->Prop}{YP:World->Heap->Prop}{d:DefRec}(hn:l.most=some n)(g:d.params.defaults=[])(call:∀(w:World)(cc s₁:Shared)(mg mb:Str->Option Value)(fa:Addr)(o:Obj)(pm cd doc:Value)(a:Addr)(vs:List Value)(ns:List Int),Ground q loose [] XP w cc mg mb s₁.heap->YP w s₁.heap->s₁.heap.get? fa=some o->o.data= .func (docDef d.name d.params d.body d.scope pm cd doc)->s₁.heap.CodeRec cd d.name->mg d.name=some (.ref fa)->s₁.heap.get? a=some {cls:= .type "list",data:= .seq vs.toArray}->IntsAre vs ns->ns.length<=n->s₁.gens=#[]->codeAny (model l.prog w) callerA (.call (.ref fa) ⟨[.ref a],[]⟩) (λr s'=>r= .ok (.ret (.bool true))/\OldK s₁.heap s'.heap/\s'.os=s₁.os/\AllBare s'.gens) s₁):WalkO q loose XP YP l.row.toRowW d [] (λf vs=>PySem.call f vs):=by intro w cc s₁ mg mb G Y fa o pm cd doc c kV ho hd e b hmg h args vals as j m s k p;obtain rfl:c= .none:=Dflts.none b g;obtain rfl:kV= .none:=Dflts.noKw b;obtain⟨a,vs,ns,rfl,rfl,i,hints,hlen⟩:=tG hn j k;refine enter_call (codeAny_mono (call w cc s₁ mg mb fa o pm cd doc a vs ns G Y ho (fd_plain hd) e hmg i hints hlen h) λr s' hq=>?_);obtain⟨rfl,h2,h3,h4⟩:=hq;exact⟨.inl ⟨.bool true, .bool true,[],rfl,λ_=>rfl, .bool true,sM l _,λ_=>⟨List.Pairwise.nil,λ_ hm=>(nomatch hm)⟩⟩,h2,h3,h4⟩
section
variable{prog:Program}{w:World}{A:Around}{E:Value->Shared->Prop}{s:Shared}{K:Frag}
end
end HY
end
section
namespace L2
open PySem PySem.Spec PyProof.Rows
theorem dD:∀{vs:List Value}{ns:List Int},IntsAre vs ns->Vals (ns.map V.int) vs|_,_, .nil=> .nil|_,_, .cons n t h=> .cons ⟨t,rfl⟩ (dD h)
def Aa(H:Hp):Prop:=∀b,H b=none\/∃o xs,H b=some (.rT o (.lst xs))
theorem vx{P:Program}{w:World}{K:PySem.W.Frag}{mg mb:Str->Option Value}{CX:nc}{k:Nat}{fa a:Addr}{fd:FuncData}{x:Str}{sp:Sp}{s₁:Shared}{vs:List Value}{ns:List Int}(KX:K.In s₁.heap)(D:s₁.heap.Ns mainGlobals mg)(hb:s₁.heap.Ns builtinsNs mb)(N:∀x:Str,x≠"__name__"->mb x=bootBuiltins x)(S:s₁.heap.NoLimit)(Q:Ar mg s₁.heap)(R:s₁.gens=#[])(ha:s₁.heap.get? a=some {cls:= .type "list",data:= .seq vs.toArray})(hi:IntsAre vs ns)(hl:ns.length<=sizeLine)(hr:c_ k callerA)(F:∀base:Heap,K.In base->base.Ns mainGlobals mg->f6 P w K mg base CX k fa fd [x] sp)(O:∀(s:Shared)(u:Value),BindsTo s fd ⟨[u],[]⟩ [(x,u)])(U:∀H:Hp,Aa H->bQ K H a (ns.map V.int)->sp [.ref a] H (λv _=>v= .bl true) λ_ _ _=>False)(J:∀H e s',CX callerA.handled [] H s₁ (λ_ _ _=>False) e s'->False):codeAny (model P w) callerA (.call (.ref fa) ⟨[.ref a],[]⟩) (λr s'=>r= .ok (.ret (.bool true))/\OldK s₁.heap s'.heap/\s'.os=s₁.os/\AllBare s'.gens) s₁:=by
 have E:=dD hi;have W:=hi.length;have core:∀H:Hp,Aa H->bQ K H a (ns.map V.int)->ff P w H s₁.heap->(∀b,H b≠none->b=a)->(H a≠none->K.lookup a=none)->codeAny (model P w) callerA (.call (.ref fa) ⟨[.ref a],[]⟩) (λr s'=>r= .ok (.ret (.bool true))/\OldK s₁.heap s'.heap/\s'.os=s₁.os/\AllBare s'.gens) s₁:=by
  intro H C hS bD t L;have j:∀{b:Addr}{o:Obj},s₁.heap.get? b=some o->H b=none->(i5 s₁.heap H).get? b=some o:=λe n=>mL e n;have Y:∀{b:Addr}{o:Obj}{es:Array DictEntry}{ep:Nat},s₁.heap.get? b=some o->o.data= .dict es ep->H b=none:=λ{b o es ep}e d=>by cases q:H b with|none=>rfl|some u=>have c:b=a:=t b (by rw[q];simp);subst c;rw[ha]at e;cases e;have d':Data.seq vs.toArray _=Data.dict es ep:=d;cases d'
  have i:∀{b:Addr}{m:Str->Option Value},s₁.heap.Ns b m->(i5 s₁.heap H).Ns b m:=λ{b m}⟨o,es,ep,e,d,r⟩=>⟨o,es,ep,j e (Y e d),d,r⟩;have B:K.In (i5 s₁.heap H):=λb o e=>j (KX b o e) (by cases q:H b with|none=>rfl|some u=>have c:b=a:=t b (by rw[q];simp);subst c;rw[L (by rw[q];simp)]at e;cases e);have G:∀{m:Str->Option Value},Ar m s₁.heap->Ar m (i5 s₁.heap H):=λ{m}⟨bm,ob,g,l,p,A⟩=>⟨bm,ob,g,l,j p (by cases q:H bm with|none=>rfl|some u=>have c:bm=a:=t bm (by rw[q];simp);subst c;rw[ha]at p;cases p;exact absurd (show Value.type "list"=Value.type "module"from A.1) (by simp)),A⟩;have M:Mod K mg (i5 s₁.heap H):=⟨B,i D,⟨mb,i hb,N⟩,let⟨X,h1,h2⟩:=S;⟨X,i h1,h2⟩,G Q⟩;have I:vN P w K mg (i5 s₁.heap H) callerA [] s₁ H:=⟨rfl,M,λb o e=>qq e,Nat.le_of_eq (j6 _ _),trivial,λb hb=>absurd (show b∈([]:List Addr)from hb) (by simp),bD, .of_eq R, .inl rfl⟩;refine codeAny_mono ((F _ B (i D)).run callerA [] s₁ H ⟨[.ref a],[]⟩ [.ref a] [.ref a] _ _ hr I (O s₁ (.ref a)) (.cons rfl .nil) (U H C hS)) λr s' h=>?_;cases r with
   |error e=>exact(J H e s' h).elim
   |ok fl=>
    cases fl with
     |next=>exact False.elim h
     |brk=>exact False.elim h
     |cont=>exact False.elim h
     |ret u=>
      obtain⟨v,H',os,bare,un,T,r',q⟩:=h;have Z:v= .bl true:=q;subst Z;obtain rfl:u=Value.bool true:=r';refine⟨rfl,OldK.of_keep λb o e=>?_,os,bare⟩;cases q:H b with
       |none=>exact un.keep b o e q (by intro z;exact absurd (show b∈([]:List Addr)from z) (by simp)) (by simp)
       |some u=>
        rcases C b with z|⟨ob,xs,z⟩;·rw[q]at z;cases z
        ·have z2:=un.jP b ob _ z;obtain⟨g,_⟩:=bD b _ z;obtain⟨l,_⟩:=T b _ z2;rw[e]at g;cases g;exact l
 cases y:K.lookup a with
  |some o=>have e:=KX a o y;rw[ha]at e;cases e;refine core (λ_=>none) (λ_=> .inl rfl) (.inr ⟨_,vs.toArray,_,y,rfl,rfl,rfl,by rw[bY,W];exact hl,by simpa using E⟩) (λb u z=>by have f:(none:Option HO)=some u:=z;cases f) (λb z=>absurd rfl z) λz=>absurd rfl z
  |none=>
   refine core (λb=>if b=a then some (.rT {cls:= .type "list",data:= .seq vs.toArray} (.lst (ns.map V.int)))else none) (λb=>?_) (.inl (.inr ⟨{cls:= .type "list",data:= .seq vs.toArray},if_pos rfl⟩)) (λb u z=>?_) (λb z=>?_) λ_=>y
   ·by_cases hb:b=a;·exact .inr ⟨_,_,if_pos hb⟩
    ·exact .inl (if_neg hb)
   ·by_cases hb:b=a;·have f:=(if_pos hb).symm.trans z;cases f;subst hb;exact⟨ha,by rw[dA];exact hl,vs,_,E,ha⟩
    ·have f:=(if_neg hb).symm.trans z;cases f
   ·by_cases hb:b=a;·exact hb
    ·exact absurd (if_neg hb) z
noncomputable abbrev KOf{K:PySem.W.Frag}{h:Heap}(_:K.In h):PySem.W.Frag:=K
theorem wH{l:PySem.W.OpenLaw}{n k:Nat}{q:Program}{loose:List Str}{XP:(Str->Option Value)->Heap->Prop}{YP:World->Heap->Prop}{d:DefRec}{K:Params->PySem.W.Frag}{CX:World->nc}{sp:World->Sp}{x:Str}(hn:l.most=some n)(p:n<=sizeLine)(j:d.params.defaults=[])(hr:c_ k callerA)(i:∀(w:World)(h:Heap),YP w h->(K w.params).In h)(F:∀(w:World)(mg:Str->Option Value)(fa:Addr)(h:Heap),(K w.params).In h->h.Ns mainGlobals mg->mg d.name=some (.ref fa)->∃fd:FuncData,(∀(s:Shared)(u:Value),BindsTo s fd ⟨[u],[]⟩ [(x,u)])/\∀base:Heap,(K w.params).In base->base.Ns mainGlobals mg->f6 l.prog w (K w.params) mg base (CX w) k fa fd [x] (sp w))(t:∀(w:World)(H:Hp)(a:Addr)(ns:List Int),ns.length<=n->Aa H->bQ (K w.params) H a (ns.map V.int)->sp w [.ref a] H (λv _=>v= .bl true) λ_ _ _=>False)(b:∀(w:World)(H:Hp)(s:Shared)(e:Value)(s':Shared),CX w callerA.handled [] H s (λ_ _ _=>False) e s'->False):PySem.W.WalkO q loose XP YP l.row.toRowW d [] (λf vs=>PySem.call f vs):=by refine HY.oH hn j λw cc s₁ mg mb fa o pm cd doc a vs ns G Y ho hd y hmg r hints hlen m=>?_;have KX:=i w _ Y;obtain⟨fd,hb,c⟩:=F w mg fa _ KX G.T.g hmg;exact vx KX G.T.g G.T.b G.T.builtins G.T.nolimit G.T.bmain m r hints (bM hlen p) hr c hb (λH g hS=>t w H a ns hlen g hS) λH e s'=>b w H s₁ e s'
noncomputable def cR(s:Stmt):Arguments:=match s with| .FunctionDef _ a _ _ _ _ _ _ _ _=>a|_=>{posonlyargs:=[],args:=[],vararg:=none,kwonlyargs:=[],kw_defaults:=[],kwarg:=none,defaults:=[]}
noncomputable def cq(s:Stmt):List Stmt:=match s with| .FunctionDef _ _ b _ _ _ _ _ _ _=>b|_=>[]
noncomputable def ao(s:Stmt):Scope:=match s with| .FunctionDef _ _ _ _ _ _ sc _ _ _=>sc|_=>{kind:= .function,names:=[],isGenerator:=false,isCoroutine:=false}
noncomputable abbrev bX:nc:=λ_ _ _ _ _ _ _=>False
noncomputable abbrev E0:XK:=λ_ _ _=>False
theorem bB{X:Cx}:Passes bX X E0:=λ_ _ _ _ _ _ _ h=>h.elim
structure tV(K:PySem.W.Frag)(x qual:Str)(st:Stmt)(f:Addr)(fd:FuncData):Prop where
 ex:∃(oc:Value)(od:Option Addr)(kV doc pm:Value)(an:Option Addr)(cZ ct:Value)(xu:Array (Option Value)),fd=PySem.W.fnOf x qual (cR st) (cq st) (ao st) .none kV doc pm an cZ ct/\K.lookup f=some ⟨oc,od, .func fd,xu⟩/\PySem.W.codeIn K cZ qual=true
 kp:PySem.W.keepIn K (.ref f)=true
section
variable{P:Program}{w:World}{K:PySem.W.Frag}{mg:Str->Option Value}{base:Heap}
theorem tV.ok{x qual:Str}{st:Stmt}{f:Addr}{fd:FuncData}{N ps:List Str}{k:Nat}{sp:Sp}(F:tV K x qual st f fd)(S:aU N ps (ao st))(len:∀vs H Q E,sp vs H Q E->vs.length=ps.length)(a:∀(cZ:Value)(A:Around)(outer:List Env)(s:Shared)(H:Hp)(vs:List V)(Q:VK)(E:XK),c_ k (A.deeper (envOfC qual (ao st) s.heap.objs.size f cZ))->sp vs H Q E->∃t,jL (mR bX P w K mg base N qual (ao st) f cZ A outer s H E).Bt (cq st) t/\t {nx:=λ_ H'=>Q .bj H',rt:=Q} (start N vs) H):f6 P w K mg base bX (k+1) f fd ps sp:=by obtain⟨oc,od,kV,doc,pm,an,cZ,ct,xu,rfl,d,b⟩:=F.ex;refine DY d b S len λA outer s H vs Q E hr c=>?_;obtain⟨t,h,q⟩:=a cZ A outer s H vs Q E hr c;exact⟨t,h.Bt,q⟩
theorem tV.binds{x qual:Str}{st:Stmt}{f:Addr}{fd:FuncData}{ps:List Str}(F:tV K x qual st f fd)(h:∀(kV doc pm:Value)(an:Option Addr)(cZ ct:Value)(us:List Value),us.length=ps.length->bindArgs (PySem.W.fnOf x qual (cR st) (cq st) (ao st) .none kV doc pm an cZ ct) ⟨us,[]⟩=pure (ps.zip us)):Binds K fd ps []:=by obtain⟨oc,od,kV,doc,pm,an,cZ,ct,xu,rfl,b,a⟩:=F.ex;exact .all (h kV doc pm an cZ ct)
theorem vn{x qual:Str}{st:Stmt}{f:Addr}{oc:Value}{od an:Option Addr}{xu:Array (Option Value)}{kV doc pm cZ ct:Value}(l:K.lookup f=some ⟨oc,od, .func (PySem.W.fnOf x qual (cR st) (cq st) (ao st) .none kV doc pm an cZ ct),xu⟩)(c:PySem.W.codeIn K cZ qual=true)(k:PySem.W.keepIn K (.ref f)=true):tV K x qual st f (PySem.W.fnOf x qual (cR st) (cq st) (ao st) .none kV doc pm an cZ ct):=⟨⟨oc,od,kV,doc,pm,an,cZ,ct,xu,rfl,l,c⟩,k⟩
end
theorem vF{A:Around}{k:Nat}(hr:c_ k A):A.units+1<cLine:=Nat.lt_of_le_of_lt (Nat.add_le_add_left (by decide:1<=64) _) hr.units
section
variable{X:Cx}
theorem pv(i:Nat){x:Str}{c:Pos}(a:X.N[i]?=some x:=by rfl)(hv:Ff X.env.scope x:=by first|exact Or.inl rfl|exact Or.inr (Or.inl rfl)|exact Or.inr (Or.inr rfl))(hd:(x==("__debug__":Str))=false:=by decide)(b:(x==("__classdict__":Str))=false:=by decide):PE X (.Name x c) (C5 i):=Ai a hv hd b
end
theorem dy{A B:Prop}(h:B):if false=true then A else B:=by rw[if_neg cJ];exact h
theorem jj{A B:Prop}(h:A):if true=true then A else B:=by rw[if_pos rfl];exact h
theorem cN{c A B:Prop}[Decidable c](h1:c->A)(h2:¬c->B):if c then A else B:=by
 by_cases h:c;·rw[if_pos h];exact h1 h
 ·rw[if_neg h];exact h2 h
theorem C9{c A B:Prop}[Decidable c](hc:c)(h:B):if(!decide c)=true then A else B:=by rw[decide_eq_true hc];exact dy h
def aT(H H':Hp):Prop:=∀b o,H b=some o->H' b=some o
theorem aT.refl(H:Hp):aT H H:=λ_ _ h=>h
theorem aT.trans{H d e:Hp}(a:aT H d)(b:aT d e):aT H e:=λc o h=>b c o (a c o h)
theorem aT.free{H H':Hp}(e:aT H H'){l:Addr}(h:H' l=Option.none):H l=Option.none:=by cases q:H l with|none=>rfl|some o=>rw[e l o q]at h;cases h
theorem aT.seq{K:PySem.W.Frag}{H H':Hp}{a:Addr}{xs:List V}(e:aT H H')(h:bQ K H a xs):bQ K H' a xs:=by
 rcases h with(h|⟨o,h⟩)|h;·exact .inl (.inl (e _ _ h))
 ·exact .inl (.inr ⟨o,e _ _ h⟩)
 ·exact .inr h
section
variable{X:Cx}
end
section
variable{κ:Type}[DecidableEq κ]
theorem xi{aL:List (κ×V)}{k:κ}{v:V}(h:dB aL k=some v):k∈aL.map (·.1):=by
 have q:(aL.any λkv=>decide (kv.1=k))=true:=by rw[nW,h];all_goals rfl
 obtain⟨p,a,e⟩:=List.any_eq_true.mp q;exact List.mem_map.mpr ⟨p,a,of_decide_eq_true e⟩
end
end L2
end
section
namespace L3
open PySem PySem.Spec PyProof.Rows L2
noncomputable def bV(env:Env):List (Str×NameKind)->List (Str×Addr)->List (Str×Addr)|[],a=>a|(n,k)::r,a=>bV env r (if(k== .free)=true then(n,(env.cells.lookup n).getD 0)::a else a)
theorem i_{env:Env}{scope:Scope}(h:∀x∈scope.names,x.2= .free->∃c,env.cells.lookup x.1=some c):closureFor scope env=pure (bV env scope.names []):=by
 unfold closureFor;have go:∀(l:List (Str×NameKind))(b:List (Str×Addr)),(∀x∈l,x.2= .free->∃c,env.cells.lookup x.1=some c)->(forIn l b λ(x:Str×NameKind)(r:List (Str×Addr))=>if(x.2== .free)=true then(do let a<-cellOf env x.1;pure (ForInStep.yield ((x.1,a)::r)))else pure (ForInStep.yield r):Sem (List (Str×Addr)))=pure (bV env l b):=by
  intro l;induction l with
   |nil=>intro b _;rfl
   |cons x l f=>
    intro b hl;obtain⟨n,k⟩:=x;have hr:∀y∈l,y.2= .free->∃c,env.cells.lookup y.1=some c:=λy g=>hl y (d9 _ g);rw[List.forIn_cons,bV];by_cases d:(k==NameKind.free)=true
    ·obtain⟨c,hc⟩:=hl (n,k) dj (by simpa using d);have hc:env.cells.lookup n=some c:=hc;have e:cellOf env n=pure c:=by unfold cellOf;rw[hc]
     simp only[d,if_true,e,pure_bind,hc,Option.getD_some];exact f _ hr
    ·simp only[d,if_false,pure_bind];exact f _ hr
 have q:=go scope.names [] h;simp only[bind_pure];exact q
theorem gj{env:Env}{x:Str}:∀(l:List (Str×NameKind))(a:List (Str×Addr)),(∃c,a.lookup x=some c)->∃c,(bV env l a).lookup x=some c
 |[],_,h=>h
 |(n,k)::r,a,h=>by
  rw[bV];refine gj r _ ?_;by_cases b:(k==NameKind.free)=true;·rw[if_pos b,ik];cases x==n with|true=>exact⟨_,rfl⟩|false=>exact h
  ·rw[if_neg b];exact h
theorem eK{env:Env}{x:Str}:∀(l:List (Str×NameKind))(a:List (Str×Addr)),(x,NameKind.free)∈l->∃c,(bV env l a).lookup x=some c
 |[],_,h=>by cases h
 |(n,k)::r,a,h=>by
  rw[bV];rcases List.mem_cons.mp h with e|h;·cases e;refine gj r _ ?_;rw[if_pos (by decide),ik,beq_self_eq_true];exact⟨_,rfl⟩
  ·exact eK r _ h
theorem eZ{env:Env}:∀(l:List (Str×NameKind))(a:List (Str×Addr)),(∀x∈l,x.2= .free->∃c,env.cells.lookup x.1=some c)->(∀x c,a.lookup x=some c->env.cells.lookup x=some c)->∀x c,(bV env l a).lookup x=some c->env.cells.lookup x=some c
 |[],_,_,h=>h
 |(n,k)::r,a,hl,h=>by
  rw[bV];refine eZ r _ (λy i=>hl y (d9 _ i)) λx c e=>?_;by_cases d:(k==NameKind.free)=true
  ·rw[if_pos d,ik]at e;cases f:x==n with
    |true=>
     rw[f]at e;obtain rfl:x=n:=by simpa using f
     obtain⟨g,b⟩:=hl (x,k) dj (by simpa using d);have b:env.cells.lookup x=some g:=b;rw[b]at e⊢;exact e
    |false=>rw[f]at e;exact h x c e
  ·rw[if_neg d]at e;exact h x c e
theorem fG{env:Env}:∀{l:List (Str×NameKind)}{x:Str},l.lookup x=some .free->(l.map λ(p:Str×NameKind)=>if(p.2==NameKind.free&&env.scope.kind== .function&&env.kindOf p.1==some .cell)then(p.1,NameKind.cell)else(p.1,p.2)).lookup x=some .cell\/(l.map λ(p:Str×NameKind)=>if(p.2==NameKind.free&&env.scope.kind== .function&&env.kindOf p.1==some .cell)then(p.1,NameKind.cell)else(p.1,p.2)).lookup x=some .free
 |[],_,h=>by simp at h
 |(n,k)::r,x,h=>by
  have b:=@fG env r x;rw[ik]at h;rw[eX];by_cases hc:(k==NameKind.free&&env.scope.kind== .function&&env.kindOf n==some .cell)=true;·simp only[hc,if_true];rw[ik];cases a:x==n with|true=>exact .inl rfl|false=>rw[a]at h;exact b h
  ·simp only[hc,eW,if_false];rw[ik];cases a:x==n with|true=>rw[a]at h;exact .inr h|false=>rw[a]at h;exact b h
theorem iD{env:Env}:∀{l:List (Str×NameKind)}{x:Str},(∀y∈l,y.2≠ .cell)->((l.map λ(p:Str×NameKind)=>if(p.2==NameKind.free&&env.scope.kind== .function&&env.kindOf p.1==some .cell)then(p.1,NameKind.cell)else(p.1,p.2)).lookup x=some .cell\/(l.map λ(p:Str×NameKind)=>if(p.2==NameKind.free&&env.scope.kind== .function&&env.kindOf p.1==some .cell)then(p.1,NameKind.cell)else(p.1,p.2)).lookup x=some .free)->(x,NameKind.free)∈l
 |[],_,_,h=>by simp at h
 |(n,k)::r,x,hl,h=>by
  have b:=@iD env r x λy c=>hl y (d9 _ c);rw[eX]at h;by_cases hc:(k==NameKind.free&&env.scope.kind== .function&&env.kindOf n==some .cell)=true
  ·simp only[hc,if_true]at h;rw[ik]at h;cases a:x==n with
    |true=>
     obtain rfl:x=n:=by simpa using a
     have :k= .free:=by simp only[cu]at hc;simpa using hc.1.1
     rw[this];exact dj
    |false=>rw[a]at h;exact d9 _ (b h)
  ·simp only[hc,eW,if_false]at h;rw[ik]at h;cases a:x==n with
    |true=>
     rw[a]at h;obtain rfl:x=n:=by simpa using a
     rcases h with h|h;·exact absurd (Option.some.inj h) (hl (x,k) dj)
     ·have :k= .free:=Option.some.inj h;rw[this];exact dj
    |false=>rw[a]at h;exact d9 _ (b h)
noncomputable abbrev pE(X:Cx)(scope:Scope)(C:Addr):Env:=compEnvC scope (bV X.env scope.names []) C X.env
noncomputable abbrev bP(X:Cx)(N':List Str)(scope:Scope)(a:Shared)(b:Hp)(fp:List Addr):Cx:={X with N:=N',cc:=a,H₀:=b,env:=pE X scope a.heap.objs.size,outer:=X.stack,stack:=X.stack,ex:=fp,fn:=λ_=>false,pn:=X.pn,xe:=λ_ _=>False}
noncomputable def dw(own:Nat)(fr:List Nat)(σ:L2.St):L2.St:=eE own none++fr.map λi=>(σ[i]?).join
structure fE(X:Cx)(N':List Str)(own:Nat)(fr:List Nat)(scope:Scope):Prop where
 kind:scope.kind= .function
 oV:∀y∈scope.names,y.2≠ .cell
 loc:∀x∈scope.names,x.2= .local->scope.names.lookup x.1=some .local
 free:∀x∈scope.names,x.2= .free->X.env.kindOf x.1=some .cell\/X.env.kindOf x.1=some .free
 len:N'.length=own+fr.length
 fr:∀j i,fr[j]?=some i->∃x,N'[own+j]?=some x/\X.N[i]?=some x/\scope.names.lookup x=some .free
theorem iF{fs ex:List Addr}{H H':Hp}{h h1 h2:Heap}{C:Addr}(u:Un fs ex H H' h h1)(d:h.objs.size<=C)(c:Heap.SameBut C h1 h2):Un fs ex H H' h h2:=by
 have ne:∀b o,h.get? b=some o->b≠C:=λb o e=>zQ15 (dk (zQ05 e) d);refine⟨λb o e n hb a=>(c.2 b (ne b o e)).trans (u.keep b o e n hb a),λb o e n hb a=>?_,u.free,λb o e a=>?_,u.kF,u.jP,u.k6⟩;·obtain⟨sl,q⟩:=u.slot b o e n hb a;exact⟨sl,(c.2 b (ne b o e)).trans q⟩
 ·obtain⟨o',q⟩:=u.there b o e a;exact⟨o',(c.2 b (ne b o e)).trans q⟩
theorem nJ{P:Program}{w:World}{H:Hp}{h h2:Heap}{C:Addr}(k:ff P w H h)(a:H C=none)(d:Heap.SameBut C h h2):ff P w H h2:=λb ob e=>by
 refine(k b ob e).nj (λc f hc q=>(d.2 c ?_).trans q) (λ_ q=>q) λ_ _ q=>q;rintro rfl;rcases hc with rfl|hc;·rw[a]at e;cases e
 ·rw[a]at hc;cases hc
noncomputable def uv(Y:Cx)(a:List Expr)(b:TT):Prop:=∀(pins:List (Addr×Obj))(s:Shared)(σ:L2.St)(H:Hp)(Q:Bool->Hp->Prop),Inv Y pins σ H s->b σ H Q->wpAny (model Y.prog Y.w) Y.A (forIn a true λc r=>if r=true then do let ok<-isTrue c Y.env (eval c Y.env);pure (ForInStep.yield ok)else pure (ForInStep.yield r)) (TP Y pins σ Q) Y.xe s
noncomputable def Ad:TT:=λ_ H Q=>Q true H
theorem xE{Y:Cx}:uv Y [] Ad:=λ_ _ _ H _ I h=>wpAny_tests_nil ⟨H,I,h⟩
theorem kI{Y:Cx}{c:Expr}{t:TT}(h:PT Y c t):uv Y [c] t:=λpins s σ H Q I hq=>wpAny_tests_one (h pins s σ H Q I hq)
section
variable{prog:Program}{w:World}{A:Around}{R:Result->Shared->Prop}{s:Shared}
theorem gH{b target iter:Expr}{d:List Expr}{scope:Scope}{j:Pos}{it a:Value}{env:Env}(J:Nat->Shared->Prop)(turn:∀n s,J n s->wpAny (model prog w) A (pyNext it) (λr s₁=>match r with|none=>R (.ok .next) s₁|some v=>wpAny (model prog w) A (letOwnedTupleGo target it v) (λ_ cc=>wpAny (model prog w) A (assign target env v) (λ_ s₂=>wpAny (model prog w) A (forIn d true λc r=>if r=true then do let ok<-isTrue c env (eval c env);pure (ForInStep.yield ok)else pure (ForInStep.yield r)) (λok e=>if ok=true then wpAny (model prog w) A (eval b env) (λx k=>wpAny (model prog w) A (call (.builtin "list.append") [a,x]) (λ_ l=>∃m,m<n/\J m l) (λ_ _=>False) k) (λ_ _=>False) e else∃m,m<n/\J m e) (λ_ _=>False) s₂) (λ_ _=>False) cc) (λ_ _=>False) s₁) (λ_ _=>False) s)(n:Nat)(h:J n s):codeAny (model prog w) A (.compLoop (.ListComp b [⟨target,iter,d,0⟩] scope j) 0 it a env) R s:=by refine codeAny_loop rfl J (λn s t=>?_) n h;show wpAny _ A ((compTurn (.ListComp b [⟨target,iter,d,0⟩] scope j) 0 it a env).onRaise (λx=>do noteFrame x env;theTreesLotGoes x)) _ _ s;refine wpAny_noted ?_;rw[compTurn_list];have no:∀{o:Type}{m:Sem o}{Q:o->Shared->Prop}{p:Value->Shared->Prop}{s':Shared},wpAny (model prog w) A m Q (λ_ _=>False) s'->wpAny (model prog w) A m Q p s':=λhm=>wpAny_mono hm (λ_ _ q=>q) λ_ _ f=>f.elim;refine zQ00 (wpAny_standAt (zQ00 (no (wpAny_mono (turn n s t) (λr s₁ g=>?_) λ_ _ h'=>h'))));cases r with|none=>exact zQ02 g|some v=>refine zQ00 (no (wpAny_mono g (λ_ cc h₀=>zQ00 (no (wpAny_mono h₀ (λ_ s₂ u=>zQ00 (no (wpAny_mono u (λok e i=>?_) λ_ _ h'=>h'))) λ_ _ h'=>h'))) λ_ _ h'=>h'));cases ok with|false=>exact zQ02 ⟨rfl,i⟩|true=>exact zQ00 (zQ00 (no (wpAny_mono i (λx k y=>zQ00 (no (wpAny_mono y (λ_ l z=>zQ02 (zQ02 ⟨rfl,z⟩)) λ_ _ h'=>h'))) λ_ _ h'=>h')))
end
def Own(own:Nat)(g:TG):Prop:=∀v σ H Q,g v σ H Q->g v σ H λa b=>Q a b/\a.length=σ.length/\∀i,own<=i->a[i]?=σ[i]?
theorem fJ{own i:Nat}(h:i<own):Own own (kq i):=λv σ H Q q=>⟨q,by simp,λj hj=>List.getElem?_set_ne (by lia)⟩
noncomputable def xY(own:Nat)(fr:List Nat)(o:TI)(g:TG)(n:TT)(l:TE):TE:=λσ H Q=>o σ H λJ d=>∀p,d p=none->∃W:Nat->Nat->List V->Hp->Prop,(∃m,W 0 m [] (upd d p (.lst [])))/\∀i m a b,W i m a b->(J.stop i b/\Q (.ref p) b)\/(J.go i b/\∀x e,J.tS i b x e->g x (dw own fr σ) e λj k=>n j k λok f=>if ok=true then l j f λv h=>h p=some (.lst a)/\a.length<sizeLine/\∃c,c<m/\W (i+1) c (a++[v]) (upd h p (.lst (a++[v])))else∃c,c<m/\W (i+1) c a f)
theorem qS{X:Cx}{scope:Scope}{N':List Str}{own:Nat}{fr:List Nat}{pins:List (Addr×Obj)}{σ:L2.St}{f:Hp}{d:Shared}{h4:Heap}{fp:List Addr}{t4:Nat}{m:Str->Option Value}(S:fE X N' own fr scope)(a:Inv X pins σ f d)(g:∀b∈fp,f_ X pins f b/\b<d.heap.objs.size)(keep:∀b o,d.heap.get? b=some o->h4.get? b=some o)(F:h4.Ns d.heap.objs.size m):Inv (bP X N' scope d f fp) [] (dw own fr σ) f {d with heap:=h4,toks:=t4}:=by
 have D:∀x∈scope.names,x.2= .free->∃c,X.env.cells.lookup x.1=some c:=λx s e=>a.ok.has x.1 (S.free x s e);have snd:∀x c,(bV X.env scope.names []).lookup x=some c->X.env.cells.lookup x=some c:=eZ _ _ D λx c e=>by simp at e
 have ok:(bP X N' scope d f fp).Ok:=by
  refine⟨a.ok.mod,S.kind,a.ok.glob,a.ok.blt,zQ04 _,λx y c h l=>a.ok.inj x y c (snd x c h) (snd y c l),λx s=>eK _ _ (iD S.oV s),λx c z=>(by cases z),a.ok.hd,a.ok.frames, .inl rfl,λb hb=>⟨zQ15 (g b hb).2,λx c e=>(g b hb).1.2.2.2.2.1 x c (snd x c e)⟩,a.bs,bM a.ok.vD a.sz,λb o e hb=>?_,λb hb H=>?_,a.stack,a.rY⟩
  ·rcases(g b hb).1.2.2.2.1 with z|z;·exact a.ok.oM b o e z
   ·exact absurd (dk (zQ05 e) a.ok.vD) (Nat.not_lt.mpr z)
  ·rcases List.mem_cons.mp (a.gG b H)with z|z;·exact(g b hb).1.2.1 z
   ·exact(g b hb).1.2.2.1 z
 refine⟨ok,rfl,a.bare,Un.kept keep,⟨m,F,λi x v h1 h2 h3=>?_⟩,λx c e=>?_,a.bD.fresh (zQ04 _),λx c e=>a.dY x c (snd x c e),λp G=>?_,a.bD.kept keep,?_⟩
 ·have h1:N'[i]?=some x:=h1;have hi:¬i<own:=λz=>by unfold dw at h2;rw[List.getElem?_append_left (by simpa using z),List.getElem?_replicate]at h2;split at h2<;>cases h2
  obtain⟨j,rfl⟩:∃j,i=own+j:=⟨i-own,by lia⟩;unfold dw at h2;rw[List.getElem?_append_right (by simp),List.length_replicate,Nat.add_sub_cancel_left,ic]at h2;cases n:fr[j]? with
   |none=>rw[n]at h2;cases h2
   |some k=>
    rw[n]at h2;have h2:(σ[k]?).join=some v:=Option.some.inj h2;have I:σ[k]?=some (some v):=by cases q:σ[k]? with|none=>rw[q]at h2;cases h2|some M=>rw[q]at h2;exact congrArg some h2
    obtain⟨N,h,l,A⟩:=S.fr j k n;rw[h1]at h;cases h;have mem:=PySem.mem_of_lookup A;have B:=S.free _ mem rfl;obtain⟨L,K,E⟩:=a.loc;obtain⟨u,r,look⟩:=E k x v l I (.inr B);rcases look with⟨q,_⟩|⟨q,c,hc,o,ho,hd⟩
    ·rcases B with z|z;·have z:X.env.kindOf x=some .cell:=z;rw[z]at q;cases q
     ·have z:X.env.kindOf x=some .free:=z;rw[z]at q;cases q
    ·obtain⟨C,t⟩:=eK (env:=X.env) scope.names [] mem;have w:=snd x C t;rw[hc]at w;cases w;exact⟨u,r, .inr ⟨fG A,c,t,o,keep _ _ ho,hd⟩⟩
 ·obtain⟨v,o,ho,hd⟩:=a.cell x c (snd x c e);exact⟨v,o,keep _ _ ho,hd⟩
 ·obtain⟨q1,q2,q3,q4,J⟩:=a.pin p (kY _ (by simpa using G));refine⟨keep _ _ q1,q2,zQ15 (zQ05 q1),λz=>?_,J⟩;rcases List.mem_cons.mp (a.gG _ z)with z|z;·exact q3 z
  ·exact q4 z
 ·show(dw own fr σ).length=N'.length;unfold dw;rw[S.len,gf,List.length_replicate,dA]
theorem kN{X:Cx}{tg iter G:Expr}{O:List Expr}{scope:Scope}{pos:Pos}{wi:TI}{g:TG}{tt:TT}{te:TE}{N':List Str}{own:Nat}{fr:List Nat}(hc:X.calm=true)(S:fE X N' own fr scope)(hi:PI X tg iter wi)(ho:Own own g)(hg:∀A w fp,PG (bP X N' scope A w fp) tg g)(hf:∀A w fp,uv (bP X N' scope A w fp) O tt)(he:∀A w fp,PE (bP X N' scope A w fp) G te)(hs:∀x,foldedSetIterable iter X.env x=pure x:=by intro _;rfl):PE X (.ListComp G [⟨tg,iter,O,0⟩] scope pos) (xY own fr wi g tt te):=by
 intro pins s σ H Q I h;have wt:∀x∈scope.names,x.2= .free->∃c,X.env.cells.lookup x.1=some c:=λx hx e=>I.ok.has x.1 (S.free x hx e);rw[eval_ListComp];refine wpAny_comprehension_free (use:=none) rfl hs (i_ wt) S.kind S.loc ?_;refine bp (hi pins s σ H _ I h) λv s1 h1=>bp h1 λE5 s2 h2=>?_;obtain⟨it,fp,tn,J,d,e,I2,T,bq,f2,h2⟩:=h2;subst e;refine gd (hd:=by size_fits) (wpAny_newFunctionEnv S.oV (by intro y hy;simp at hy) (λh4 M N=>?_) S.kind);have mB:=I2.bD.fresh (zQ04 s2.heap.objs.size);obtain⟨W,⟨m0,w0⟩,turn⟩:=h2 _ mB;have C:Inv X pins σ (upd d s2.heap.objs.size (.lst [])) {s2 with heap:=s2.heap.push {cls:= .type "list",dict:=none,data:= .seq ([]:List Value).toArray},toks:=s2.toks}:=I2.wO .nil (zQ08 _);have Ds:∀b∈fp,b<s2.heap.objs.size:=λb hb=>let⟨o,e,_⟩:=T.obj _ _ bq b hb;zQ05 e;have FQ:∀b o,s2.heap.get? b=some o->∀ob:Obj,(s2.heap.push ob).get? b=some o:=λb o e ob=>zQ01 _ e;have BG:(s2.heap.push {cls:= .type "list",dict:=none,data:= .seq ([]:List Value).toArray}).objs.size=s2.heap.objs.size+1:=zQ20 ..;revert M N C;generalize e3:s2.heap.push {cls:= .type "list",dict:=none,data:= .seq ([]:List Value).toArray}=h3 at BG⊢;intro M N C;have keep:∀b o,h3.get? b=some o->h4.get? b=some o:=λb o e=>(N.2 b (zQ15 (zQ05 e))).trans (zQ01 _ e);have K:∀b∈fp,f_ X pins (upd d s2.heap.objs.size (.lst [])) b/\b<h3.objs.size:=λb hb=>by refine⟨⟨?_,(f2 b hb).2⟩,by rw[BG];exact zQ36 (Ds b hb)⟩;rw[aG (zQ15 (Ds b hb))];exact(f2 b hb).1
 have D:=qS (t4:=s2.toks+([]:List (Str×Value)).length) S C K keep M;have V:tn 0 h4:=T.keep _ _ _ bq λb hb o e=>keep b o (by rw[<-e3];exact FQ b o e _);have U:∀{H':Hp},(∀b∈fp,H' b=none)->∀b∈fp,f_ (bP X N' scope {s2 with heap:=h3,toks:=s2.toks} (upd d s2.heap.objs.size (.lst [])) fp) [] H' b:=λ{H'}hn b hb=>⟨hn b hb,zQ15 (K b hb).2,λz=>D.ok.sV b hb z, .inl hb,(D.ok.ET b hb).2,λp hp=>(f2 b hb).2.2.2.2.2 p (kY _ (by simpa using hp))⟩;have loop:∀E:Shared,Inv (bP X N' scope {s2 with heap:=h3,toks:=s2.toks} (upd d s2.heap.objs.size (.lst [])) fp) [] (dw own fr σ) (upd d s2.heap.objs.size (.lst [])) E->tn 0 E.heap->codeAny (model X.prog X.w) X.A (.compLoop (.ListComp G [⟨tg,iter,O,0⟩] scope pos) 0 (.ref it) (.ref s2.heap.objs.size) (pE X scope h3.objs.size)) (compPost (model X.prog X.w) X.A X.xe none (EP X pins σ Q) (.ref s2.heap.objs.size) h3.objs.size) E:=by
  intro E Ix tx;refine gH (λn s'=>∃i l H',Inv (bP X N' scope {s2 with heap:=h3,toks:=s2.toks} (upd d s2.heap.objs.size (.lst [])) fp) [] (dw own fr σ) H' s'/\tn i s'.heap/\(∀b∈fp,H' b=none)/\W i n l H') ?_ m0 ⟨0,[],_,Ix,tx,λb hb=>(K b hb).1.1,w0⟩;rintro n s5⟨i,l,B,I5,xJ,zX,w5⟩;rcases turn i n l B w5 with⟨stop,qn⟩|⟨go,step⟩;·refine bp (T.done (bP X N' scope {s2 with heap:=h3,toks:=s2.toks} (upd d s2.heap.objs.size (.lst [])) fp) rfl rfl rfl hc i [] s5 _ B (λ_ _=>False) I5 (U zX) xJ stop) λr s6 a=>?_;obtain⟨hr,m⟩:=a;subst hr;obtain⟨m6,HF,_⟩:=id m.loc;refine⟨m6,HF,λh7 Jy=>⟨.ref s2.heap.objs.size,B,?_,rfl,qn⟩⟩;exact C.ya (s':={s6 with heap:=h7}) (ch:=fp) m.os (iF m.base (zQ04 _) Jy) (nJ m.bD m.free Jy) m.bare λb hb=>⟨(f2 b hb).2.2.2.1,(f2 b hb).2.1,(f2 b hb).2.2.2.2.1,(f2 b hb).2.2.2.2.2⟩
  ·refine bp (T.item (bP X N' scope {s2 with heap:=h3,toks:=s2.toks} (upd d s2.heap.objs.size (.lst [])) fp) rfl rfl rfl hc i [] s5 _ B (λ_ _=>False) I5 (U zX) xJ go) λr s6 a=>?_;obtain⟨u,hr,h6⟩:=a;subst hr;refine bp h6 λ_ s7 a=>?_;obtain⟨x,Z,I7,r7,y7,R,GK⟩:=a;have G6:=I7.pinned (U GK) (T.obj _ _ R);refine bp (hg _ _ _ _ s7 _ Z x u _ G6 r7 (ho _ _ _ _ (step x Z y7))) λ_ s8 a=>?_;obtain⟨F,H8,I8,q8,l8,k8⟩:=a;have again:∀{k:Hp}{t:Shared},Inv (bP X N' scope {s2 with heap:=h3,toks:=s2.toks} (upd d s2.heap.objs.size (.lst [])) fp) ([]++gE fp s7.heap) F k t->Inv (bP X N' scope {s2 with heap:=h3,toks:=s2.toks} (upd d s2.heap.objs.size (.lst [])) fp) [] (dw own fr σ) k t/\tn (i+1) t.heap/\∀b∈fp,k b=none:=λ{k t}q=>by
    refine⟨q.eJ.weak l8.symm λj v e=>?_,T.keep _ _ _ R λb hb o e=>(q.pin (b,o) (fh _ (fh _ (cA hb e)))).1,λb hb=>?_⟩
    ·have hj:own<=j:=by refine Nat.le_of_not_lt λz=>?_;unfold dw at e;rw[List.getElem?_append_left (by simpa using z),List.getElem?_replicate]at e;split at e<;>cases e
     rw[k8 j hj];exact e
    ·obtain⟨o,e,_⟩:=T.obj _ _ R b hb;exact(q.pin (b,o) (fh _ (fh _ (cA hb e)))).2.1
   refine bp (hf _ _ _ _ s8 F H8 _ I8 q8) λok t a=>?_;obtain⟨k,q,q9⟩:=a;cases ok with|false=>obtain⟨P,L,w9⟩:=q9;obtain⟨a1,a2,a3⟩:=again q;exact⟨P,L,i+1,l,k,a1,a2,a3,w9⟩|true=>refine bp (he _ _ _ _ t F k _ q q9) λy FZ a=>?_;obtain⟨v,Y,Fw,GG,Aw,AM,P,L,G5⟩:=a;refine bp (gD _ FZ F Y (.ref s2.heap.objs.size) [v] (.ref s2.heap.objs.size) [y] (λ_ Hn=>Hn=upd Y s2.heap.objs.size (.lst (l++[v]))) Fw rfl (.cons GG .nil) ⟨_,l,v,rfl,rfl,Aw,AM,rfl⟩) λ_ J4 a=>?_;obtain⟨_,JI,F9,_,Ha⟩:=a;subst Ha;obtain⟨a1,a2,a3⟩:=again F9;exact⟨P,L,i+1,l++[v],_,a1,a2,a3,G5⟩
 exact codeAny_compStart_list (loop _ D V) (wpAny_mono (T.self X.A 0 _ (λv s'=>v= .ref it/\s'=_) (λ_ _=>False) V ⟨rfl,rfl⟩) (λv s'⟨e1,e2⟩=>by subst e1;subst e2;exact loop _ D V) λ_ _ f=>f.elim)
def Nx(n i:Nat)(P:Prop):Prop:=∃a,a<n-i/\a=n-(i+1)/\i+1<=n/\P
theorem nx{n i:Nat}{P:Prop}(h:i<n)(p:P):Nx n i P:=⟨n-(i+1),by lia,rfl,h,p⟩
theorem rP{J:It}{p:Addr}{l:Hp}{g:TG}{q:TT}{o:TE}{b:L2.St}{Q:VK}(n:Nat)(Pv:Nat->List V->Hp->Prop)(r:Pv 0 [] (upd l p (.lst [])))(s:∀i a c,i<n->Pv i a c->J.go i c/\∀x d,J.tS i c x d->g x b d λj k=>q j k λok e=>if ok=true then o j e λv f=>f p=some (.lst a)/\a.length<sizeLine/\Nx n i (Pv (i+1) (a++[v]) (upd f p (.lst (a++[v]))))else Nx n i (Pv (i+1) a e))(hd:∀a c,Pv n a c->J.stop n c/\Q (.ref p) c):∃W:Nat->Nat->List V->Hp->Prop,(∃m,W 0 m [] (upd l p (.lst [])))/\∀i m a c,W i m a c->(J.stop i c/\Q (.ref p) c)\/(J.go i c/\∀x d,J.tS i c x d->g x b d λj k=>q j k λok e=>if ok=true then o j e λv f=>f p=some (.lst a)/\a.length<sizeLine/\∃h,h<m/\W (i+1) h (a++[v]) (upd f p (.lst (a++[v])))else∃h,h<m/\W (i+1) h a e):=by
 refine⟨λi m a H=>m=n-i/\i<=n/\Pv i a H,⟨n,by simp,zQ08 _,r⟩,?_⟩;rintro i m a c⟨rfl,hi,w⟩;by_cases hlt:i<n;·exact .inr (s i a c hlt w)
 ·obtain rfl:i=n:=by lia
  exact .inl (hd a c w)
end L3
end
section
namespace L3
open PySem L2
section
variable{prog:Program}{w:World}{A:Around}{E:Value->Shared->Prop}{s:Shared}
end
structure gs(z TI TO i1 i2:Nat)(f1 f2:List Nat):Prop where
 TIz:TI≠z
 TOz:TO≠z
 TITO:TI≠TO
 KA:TI≠i1
 Kw:TI≠i2
 Kc:TO≠i1
 K3:TO≠i2
 i1z:i1≠z
 i2z:i2≠z
 Gw:z∉f1
 Ic:z∉f2
 HS:TO∉f1
 HN:TO∉f2
 Ga:i2∉f1
 Hu:i1∉f2
section
variable{prog:Program}{w:World}{A:Around}{E:Value->Shared->Prop}{s:Shared}
variable{z TI TO i1 i2:Addr}{f1 f2:List Addr}{n1 n2:Nat}{P1 P2:Nat->Value->Prop}{S1 S2:Nat->Heap->Prop}
theorem sS{i:Nat}{a b:Value}{Q:Value->Shared->Prop}(D1:Draws prog w A i1 f1 n1 P1 S1)(H:Draws prog w A i2 f2 n2 P2 S2)(d:gs z TI TO i1 i2 f1 f2)(r:IsZip s.heap z TI TO .none)(V:IsPair s.heap TI (.ref i1) (.ref i2))(W:IsPair s.heap TO a b)(s1:S1 i s.heap)(s2:S2 i s.heap)(l1:i<n1)(l2:i<n2)(X:∀x y h' tk,P1 i x->P2 i y->IsZip h' z TI TO (rawInt s.heap.objs.size)->IsPair h' TO x y->S1 (i+1) h'->S2 (i+1) h'->IsPair h' s.heap.objs.size x y->(∀c o,c≠z->c≠TO->c≠i1->c≠i2->s.heap.get? c=some o->h'.get? c=some o)->Q (.ref s.heap.objs.size) {s with heap:=h',toks:=tk}):wpAny (model prog w) A (Builtin.«zip.__next__» ⟨[.ref z],[]⟩) (λfin s'=>∃v,fin= .done (.ret v)/\Q v s') E s:=by
 have u:∀{k:Nat}{h h':Heap}{c:Addr},c∉f1->Heap.SameBut c h h'->S1 k h->S1 k h':=λ{k h h' c}hc sb st=>D1.frame _ _ _ st λq hq o e=>(sb.2 q λz=>hc (z▸hq)).trans e;have B:∀{k:Nat}{h h':Heap}{c:Addr},c∉f2->Heap.SameBut c h h'->S2 k h->S2 k h':=λ{k h h' c}hc sb st=>H.frame _ _ _ st λq hq o e=>(sb.2 q λz=>hc (z▸hq)).trans e;show wpAny (model prog w) _ (field (.ref z) 2>>=_) _ _ _;refine zQ00 (cP r rfl (x:= .bool false) rfl ?_);show wpAny (model prog w) _ (field (.ref z) 3>>=_) _ _ _;refine zQ00 (cP r rfl (x:= .ref TI) rfl ?_);refine zQ00 (wpAny_seqItems V rfl ?_);show wpAny (model prog w) _ (Builtin.SmallTypes.ownedTupleIsFree (.ref z)>>=_) _ _ _;refine zQ00 ?_;unfold Builtin.SmallTypes.ownedTupleIsFree;refine zQ00 (cP r rfl (x:= .none) rfl (zQ02 ?_));simp only[if_true];refine zQ00 (wpAny_rule ?_);refine zQ00 (cP r rfl (x:= .ref TO) rfl ?_);refine zQ00 (js r (by simp) λY L j=>?_);replace L:IsZip Y z TI TO .ellipsis:=L;refine zQ00 ?_;simp only[List.zipIdx_cons,List.zipIdx_nil,List.forIn_cons,List.forIn_nil];refine zQ00 (zQ00 (wpAny_onRaise ?_));show wpAny (model prog w) _ (Builtin.SmallTypes.nextOf (.ref i1)>>=_) _ _ _;refine zQ00 (D1.item i _ _ _ l1 (u d.Gw j s1) λx Z t2 px q2 l=>zQ02 ?_);have R:IsPair Z TO a b:=l.extBut _ _ d.Kc (j.extBut _ _ d.TOz W);refine zQ00 (wpAny_seqItems R rfl ?_);refine zQ00 (wpAny_updateSeq_pair R λk3 K m=>?_);replace K:IsPair k3 TO x b:=K;refine zQ00 (wpAny_letGo (zQ02 ?_));refine zQ00 (zQ00 (wpAny_onRaise ?_));show wpAny (model prog w) _ (Builtin.SmallTypes.nextOf (.ref i2)>>=_) _ _ _;refine zQ00 (H.item i _ _ _ l2 (B d.HN m (B d.Hu l (B d.Ic j s2))) λy k4 t4 py q4 n=>zQ02 ?_);have S:IsPair k4 TO x b:=n.extBut _ _ d.K3 K;refine zQ00 (wpAny_seqItems S rfl ?_);refine zQ00 (wpAny_updateSeq_pair S λf D p=>?_);replace D:IsPair f TO x y:=D;refine zQ00 (wpAny_letGo (zQ02 (zQ02 ?_)));refine zQ00 (wpAny_seqItems D rfl ?_);refine zQ00 (wpAny_newTuple ?_);have sz:f.objs.size=s.heap.objs.size:=by rw[p.1,n.1,m.1,l.1,j.1]
 have U:IsZip f z TI TO .ellipsis:=p.extBut _ _ d.TOz.symm (n.extBut _ _ d.i2z.symm (m.extBut _ _ d.TOz.symm (l.extBut _ _ d.i1z.symm L)));have kp:∀c o,c≠z->c≠TO->c≠i1->c≠i2->s.heap.get? c=some o->f.get? c=some o:=λc o g t I J e=>p.extBut _ _ t (n.extBut _ _ J (m.extBut _ _ t (l.extBut _ _ I (j.extBut _ _ g e))));have yy:S1 (i+1) f:=u d.HS p (u d.Ga n (u d.HS m q2));have ze:S2 (i+1) f:=B d.HN p q4;have P:z<f.objs.size:=zQ05 U;show wpAny (model prog w) _ (Builtin.SmallTypes.ownedTupleHandOut (.ref z) (.ref f.objs.size)>>=_) _ _ _;refine zQ00 ?_;unfold Builtin.SmallTypes.ownedTupleHandOut;have z6:IsZip (f.push {cls:= .type "tuple",data:= .seq #[x,y]}) z TI TO .ellipsis:=zQ01 _ U;refine zQ00 (js z6 (by simp) λk7 M N=>?_);replace M:IsZip k7 z TI TO (rawInt f.objs.size):=M;refine js M (by simp) λC G O=>?_;replace G:IsZip C z TI TO (rawInt f.objs.size):=G;have F:∀c o,c≠z->f.get? c=some o->C.get? c=some o:=λc o g e=>O.extBut _ _ g (N.extBut _ _ g (zQ01 _ e));have T:IsPair C f.objs.size x y:=O.extBut _ _ (Nat.ne_of_gt P) (N.extBut _ _ (Nat.ne_of_gt P) (zQ09 _ rfl));rw[sz]at G T;refine zQ02 ⟨_,rfl,?_⟩;show Q (.ref f.objs.size) _;rw[sz];exact X x y C _ px py G (F _ _ d.TOz D) (D1.frame _ _ _ yy λq hq o e=>F q o (λz=>d.Gw (z▸hq)) e) (H.frame _ _ _ ze λq hq o e=>F q o (λz=>d.Ic (z▸hq)) e) T λc o g t I J e=>F c o g (kp c o g t I J e)
theorem sr{a b:Value}{Q:Fin->Shared->Prop}(D1:Draws prog w A i1 f1 n1 P1 S1)(h:gs z TI TO i1 i2 f1 f2)(d:IsZip s.heap z TI TO .none)(r:IsPair s.heap TI (.ref i1) (.ref i2))(D:IsPair s.heap TO a b)(s1:S1 n1 s.heap)(t:∀h' e,(∀c o,c≠z->c≠TO->c≠i1->c≠i2->s.heap.get? c=some o->h'.get? c=some o)->(∃o,h'.get? e=some o/\o.cls= .type "StopIteration")->E (.ref e) {s with heap:=h'}):wpAny (model prog w) A (Builtin.«zip.__next__» ⟨[.ref z],[]⟩) Q E s:=by
 show wpAny (model prog w) _ (field (.ref z) 2>>=_) _ _ _;refine zQ00 (cP d rfl (x:= .bool false) rfl ?_);show wpAny (model prog w) _ (field (.ref z) 3>>=_) _ _ _;refine zQ00 (cP d rfl (x:= .ref TI) rfl ?_);refine zQ00 (wpAny_seqItems r rfl ?_);show wpAny (model prog w) _ (Builtin.SmallTypes.ownedTupleIsFree (.ref z)>>=_) _ _ _;refine zQ00 ?_;unfold Builtin.SmallTypes.ownedTupleIsFree;refine zQ00 (cP d rfl (x:= .none) rfl (zQ02 ?_));simp only[if_true];refine zQ00 (wpAny_rule ?_);refine zQ00 (cP d rfl (x:= .ref TO) rfl ?_);refine zQ00 (js d (by simp) λu g i=>?_);replace g:IsZip u z TI TO .ellipsis:=g;refine zQ00 ?_;simp only[List.zipIdx_cons,List.zipIdx_nil,List.forIn_cons,List.forIn_nil];refine zQ00 (zQ00 (wpAny_onRaise ?_));show wpAny (model prog w) _ (Builtin.SmallTypes.nextOf (.ref i1)>>=_) _ _ _;refine zQ00 (D1.done _ _ _ (D1.frame _ _ _ s1 λq hq o e=>(i.2 q λy=>h.Gw (y▸hq)).trans e) λv e j he=>?_);obtain⟨oe,f,m⟩:=he;have n:IsZip v z TI TO .ellipsis:=j _ _ h.i1z.symm g;have C:e≠z:=λq=>by subst q;rw[n]at f;cases f;simp at m
 refine js n (by simp) λB _ k=>t B e (λc o l _ p _ q=>k.extBut _ _ l (j _ _ p (i.extBut _ _ l q))) ⟨oe,k.extBut _ _ C f,m⟩
theorem sY{i:Nat}{a b:Value}{Q:Option Value->Shared->Prop}(D1:Draws prog w A.in1 i1 f1 n1 P1 S1)(e:Draws prog w A.in1 i2 f2 n2 P2 S2)(f:gs z TI TO i1 i2 f1 f2)(d:IsZip s.heap z TI TO .none)(g:IsPair s.heap TI (.ref i1) (.ref i2))(h:IsPair s.heap TO a b)(s1:S1 i s.heap)(s2:S2 i s.heap)(k:i<n1)(l:i<n2)(j:∀x y h' tk,P1 i x->P2 i y->IsZip h' z TI TO (rawInt s.heap.objs.size)->IsPair h' TO x y->S1 (i+1) h'->S2 (i+1) h'->IsPair h' s.heap.objs.size x y->(∀c o,c≠z->c≠TO->c≠i1->c≠i2->s.heap.get? c=some o->h'.get? c=some o)->Q (some (.ref s.heap.objs.size)) {s with heap:=h',toks:=tk}):wpAny (model prog w) A (pyNext (.ref z)) Q E s:=by have ty:s.TypeIs (.ref z) "zip":=⟨_,d,rfl⟩;unfold pyNext;refine zQ00 (wpAny_attempt (wpAny_callSpecial?_slot (name:=Str.ofString "__next__") ty F.slot_zip_next (eG F.slot_zip_next ty F.entry_zip_next ?_ (F.args_zip_next_1 _))));exact sS D1 e f d g h s1 s2 k l λx y h' tk a1 a2 a3 a4 a5 a6 a7 a8=>zQ02 (j x y h' tk a1 a2 a3 a4 a5 a6 a7 a8)
theorem sL{a b:Value}{Q:Option Value->Shared->Prop}(D1:Draws prog w A.in1 i1 f1 n1 P1 S1)(f:gs z TI TO i1 i2 f1 f2)(d:IsZip s.heap z TI TO .none)(g:IsPair s.heap TI (.ref i1) (.ref i2))(h:IsPair s.heap TO a b)(s1:S1 n1 s.heap)(i:∀h',(∀c o,c≠z->c≠TO->c≠i1->c≠i2->s.heap.get? c=some o->h'.get? c=some o)->Q none {s with heap:=h'}):wpAny (model prog w) A (pyNext (.ref z)) Q E s:=by have ty:s.TypeIs (.ref z) "zip":=⟨_,d,rfl⟩;unfold pyNext;refine zQ00 (wpAny_attempt (wpAny_callSpecial?_slot (name:=Str.ofString "__next__") ty F.slot_zip_next (eG F.slot_zip_next ty F.entry_zip_next (sr D1 f d g h s1 λh' e j he=>?_) (F.args_zip_next_1 _))));obtain⟨o,ho,hc⟩:=he;refine zQ00 (wpAny_isInstance (T:="StopIteration") (b:=true) ⟨o,ho,hc⟩ isSubtype_stop (zQ02 (i _ j)))
end
section
variable{prog:Program}{w:World}{A:Around}{E:Value->Shared->Prop}{s:Shared}
end
end L3
end
section
namespace L3
open PySem PySem.Spec PyProof.Rows L2
section
variable{X:Cx}{pins:List (Addr×Obj)}{σ:L2.St}{H:Hp}{s:Shared}{h':Heap}
theorem sI{t':Nat}{ch:List Addr}{T:Addr}{o:HO}(I:Inv X pins σ H s)(k:∀b ob,b∉ch->s.heap.get? b=some ob->h'.get? b=some ob)(a:∀b∈ch,f_ X pins H b)(hT:s.heap.objs.size<=T)(new:br X.prog X.w (upd H T o) h' T o):Inv X pins σ (upd H T o) {s with heap:=h',toks:=t'}:=by
 have hn:H T=none:=I.bD.fresh hT;have d:∀b u,H b=some u->b∉ch:=λb u e z=>by rw[(a b z).1]at e;cases e
 refine I.step (g':=s.gens) (d':=s.drawn) (ch:=ch) (λb hb=>⟨(a b hb).2.2.2.1,(a b hb).2.1,(a b hb).2.2.2.2.1,(a b hb).2.2.2.2.2⟩) (λb ob _ _ hc e _=>k b ob hc e) (λb ob _ _ hc e _=>⟨ob.slots,k b ob hc e⟩) (λb ob _ e n=>by rw[aG (zQ15 (dk (zQ05 e) hT))];exact n) (λb ob hc e=>⟨ob,k b ob hc e⟩) (λb xs e=>by rw[aG (aB e hn)];exact e) (λb ob u e=>by rw[aG (aB e hn)];exact e) (λb ps e=>(by rw[aG (aB e hn),e])) (λm hm=>?_) (λb u e=>?_) I.bare;·obtain⟨ob,es,ep,ho,r⟩:=hm;exact⟨ob,es,ep,k _ ob (λz=>(a _ z).2.1 rfl) ho,r⟩
 ·by_cases hb:b=T;·subst hb;rw[ai]at e;cases e;exact new
  ·rw[aG hb]at e;refine(I.bD b u e).nj (λc v hc q=>k c v ?_ q) (λc q=>by rw[aG (aB q hn)];exact q) λc xs q=>by rw[aG (aB q hn)];exact q
   rcases hc with z|z;·rw[z];exact d b u e
   ·exact d c _ z
theorem wZ{t':Nat}{ch:List Addr}(I:Inv X pins σ H s)(k:∀b ob,b∉ch->s.heap.get? b=some ob->h'.get? b=some ob)(a:∀b∈ch,f_ X pins H b):Inv X pins σ H {s with heap:=h',toks:=t'}:=by
 have d:∀b u,H b=some u->b∉ch:=λb u e z=>by rw[(a b z).1]at e;cases e
 refine I.step (g':=s.gens) (d':=s.drawn) (ch:=ch) (λb hb=>⟨(a b hb).2.2.2.1,(a b hb).2.1,(a b hb).2.2.2.2.1,(a b hb).2.2.2.2.2⟩) (λb ob _ _ hc e _=>k b ob hc e) (λb ob _ _ hc e _=>⟨ob.slots,k b ob hc e⟩) (λb ob _ e n=>n) (λb ob hc e=>⟨ob,k b ob hc e⟩) (λb xs e=>e) (λb ob u e=>e) (λb ps e=>(by rw[e])) (λm hm=>?_) (λb u e=>?_) I.bare;·obtain⟨ob,es,ep,ho,r⟩:=hm;exact⟨ob,es,ep,k _ ob (λz=>(a _ z).2.1 rfl) ho,r⟩
 ·refine(I.bD b u e).nj (λc v hc q=>k c v ?_ q) (λ_ q=>q) λ_ _ q=>q;rcases hc with z|z;·rw[z];exact d b u e
  ·exact d c _ z
end
noncomputable def E_(z:Str):It:=⟨λi _=>i<z.cps.size,λi H x H'=>H'=H/\∃c,z.cps[i]?=some c/\x= .str ⟨#[c]⟩,λi _=>z.cps.size<=i⟩
theorem tY{P:Program}{w:World}{K:PySem.W.Frag}{tg:Expr}(it:Addr)(z:Str)(t:Tok):Turn P w K tg (E_ z) [it] it (λi h=>h.IsStrIter it (strIterType z) z t i)where
 mem:=by simp
 obj:=λi h st b hb=>by
  obtain rfl:b=it:=by simpa using hb
  obtain⟨o,e,c,d⟩:=st;exact⟨o,e,λv q=>by rw[d]at q;cases q⟩
 keep:=λi h h' st k=>by obtain⟨o,e,r⟩:=st;exact⟨o,k it (by simp) o e,r⟩
 item:=by
  intro X y hw p hc i pins s σ H E I l st j;subst y hw p;have hi:i<z.cps.size:=j;have a:z.cps[i]?=some z.cps[i]:=by simp[hi]
  obtain⟨m,f1,f2,f,n,g⟩:=l it (by simp);have fin:∀h',h'.IsStrIter it (strIterType z) z t (i+1)->Heap.SameBut it s.heap h'->∃u,some (Value.str ⟨#[z.cps[i]]⟩ s.toks)=some u/\wpAny (model X.prog X.w) X.A (letOwnedTupleGo tg (.ref it) u) (λ_ s2=>∃x H',Inv X pins σ H' s2/\RelV x u/\(E_ z).tS i H x H'/\s2.heap.IsStrIter it (strIterType z) z t (i+1)/\∀b∈[it],H' b=none) E {s with heap:=h',toks:=s.toks+1}:=by intro h' aw sb;have B:Inv X pins σ H {s with heap:=h',toks:=s.toks+1}:=I.turned (λb o hb e=>(sb.2 b hb).trans e) m f1 f n g;obtain⟨o,e,c,d⟩:=id aw;refine⟨_,rfl,x5 (s:={s with heap:=h',toks:=s.toks+1}) e c d (by unfold strIterType;split<;>decide) ⟨.str ⟨#[z.cps[i]]⟩,H,B,⟨_,rfl⟩,⟨rfl,_,a,rfl⟩,aw,λb hb=>(l b hb).1⟩⟩
  cases ha:z.cps.all (·<128)with
   |true=>
    have e:strIterType z="str_ascii_iterator":=by simp[strIterType,ha]
    rw[e]at st fin⊢;exact wpAny_pyNext_ascii_item st a fin
   |false=>
    have e:strIterType z="str_iterator":=by simp[strIterType,ha]
    rw[e]at st fin⊢;exact wpAny_pyNext_wide_item st a fin
 done:=by
  intro X y hw p hc i pins s σ H E I l st j;subst y hw p;have a:z.cps[i]?=none:=by have j:z.cps.size<=i:=j;simpa using j
  obtain⟨m,f1,f2,f,n,g⟩:=l it (by simp);have fin:∀h',Heap.ExtBut it s.heap h'->(none:Option Value)=none/\Inv X pins σ H {s with heap:=h'}:=λh' C=>⟨rfl,I.turned (t':=s.toks) (λb o hb e=>C b o hb e) m f1 f n g⟩;cases ha:z.cps.all (·<128)with
   |true=>
    have e:strIterType z="str_ascii_iterator":=by simp[strIterType,ha]
    rw[e]at st;exact jn (I.hb hc) (I.Br hc f g) st a fin
   |false=>
    have e:strIterType z="str_iterator":=by simp[strIterType,ha]
    rw[e]at st;exact jO (I.hb hc) (I.Br hc f g) st a fin
 self:=λA i s Q E st h=>by
  cases ha:z.cps.all (·<128)with
   |true=>
    have e:strIterType z="str_ascii_iterator":=by simp[strIterType,ha]
    rw[e]at st;exact wpAny_pyIter_striter_ascii st h
   |false=>
    have e:strIterType z="str_iterator":=by simp[strIterType,ha]
    rw[e]at st;exact wpAny_pyIter_striter_wide st h
noncomputable def GA(tl:TE):TI:=λσ H R=>tl σ H λx a=>∃z,x= .str z/\R (E_ z) a
theorem A1{X:Cx}{tg l:Expr}{tl:TE}(hl:PE X l tl):PI X tg l (GA tl):=by
 intro pins s σ H R I h;refine bp (hl pins s σ H _ I h) λv s1 f=>?_;obtain⟨x,c,a,d,z,e,q⟩:=f;subst e;obtain⟨t,rfl⟩:=d;refine wpAny_pyIter_strU ?_;refine⟨s1.heap.objs.size,[s1.heap.objs.size],_,E_ z,c,rfl,a.kept (t':=s1.toks) λb o e=>zQ01 _ e,tY _ z t,⟨_,zQ09 _ rfl,rfl,rfl⟩,λb hb=>?_,q⟩;obtain rfl:b=s1.heap.objs.size:=by simpa using hb
 exact a.zt (zQ04 _) (a.bD.fresh (zQ04 _))
structure J7(a b z TI TO i1 i2:Addr)(i:Nat)(h:Heap):Prop where
 z:IsZip h z TI TO .none
 TI:IsPair h TI (.ref i1) (.ref i2)
 TO:∃u v,IsPair h TO u v
 i1:h.IsTupleIter i1 a i
 i2:h.IsTupleIter i2 b i
section
variable{X:Cx}
theorem cG:g4 X (.builtin "isinstance") (λxs H Q=>∃x t n b,xs=[x, .ty n]/\fg X.K H x t/\PySem.W.kitOne X.K t (.type n)=some b/\Q (.bl b) H):=by intro pins s σ H xs us Q I r h;obtain⟨x,t,n,b,rfl,ty,e,q⟩:=h;obtain⟨u,v,rfl,a,c⟩:=r.two;obtain rfl:v=Value.type n:=c;exact sD I a ty e λtk=>⟨.bl b,H,I.tok tk,rfl,q⟩
end
structure jC(K:PySem.W.Frag)(a:Addr)(D:List (Str×V)):Prop where
 sys:(a==sysModules)=false
 ex:∃o es ep,K.lookup a=some o/\o.ExactDict/\o.data= .dict es ep/\KTD.Rows RelV es.toList D
section
variable{X:Cx}{pins:List (Addr×Obj)}{σ:L2.St}{H:Hp}{s:Shared}{a:Addr}{D:List (Str×V)}{k:Str}{tk:Tok}{A:Around}{E:Value->Shared->Prop}
theorem jC.typeIs(T:jC X.K a D)(I:Inv X pins σ H s):s.TypeIs (.ref a) "dict":=let⟨o,_,_,e,x,_⟩:=T.ex;⟨o,I.j_ a o e,x.1⟩
theorem qC{Q:Option Value->Shared->Prop}(T:jC X.K a D)(I:Inv X pins σ H s)(h1:∀v u,KTD.datumAt k D=some v->RelV v u->Q (some u) {s with toks:=s.toks+1})(h2:KTD.datumAt k D=none->Q none {s with toks:=s.toks+1}):wpAny (model X.prog X.w) A (dictGet a (.str k tk)) Q E s:=by
 obtain⟨_,o,es,ep,j,_,ed,f⟩:=T;have eo:=I.j_ a o j;unfold dictGet;try with_reducible refine d8 ?_
 have g:(es.all λe=>isExactStrKey e.key)=true:=by obtain⟨l⟩:=es;simpa using f.exact
 refine zQ00 (wpAny_pyHash_str (zQ00 (KTD.kt_dictFind_strs (s:={s with toks:=s.toks+1}) eo ed g ?_)));have b:Q (findBy (λk v=>v.isStr k) es k) {s with toks:=s.toks+1}:=by
  have h:findBy (λk v=>v.isStr k) es k=(es.toList.find? λe=>e.key.isStr k).map (·.val):=by obtain⟨l⟩:=es;simp[findBy]
  rw[h];cases c:KTD.datumAt k D with|some d=>obtain⟨v,hv,hr⟩:=f.find_some c;rw[hv];exact h1 d v c hr|none=>rw[f.find_none c];exact h2 c
 rw[findBy_of_findIdx?]at b;cases hi:es.findIdx? λe=>e.key.isStr k with|none=>rw[hi]at b;exact zQ02 b|some i=>rw[hi]at b;exact zQ00 (wpAny_dictEntries (s:={s with toks:=s.toks+1}) eo ed (zQ02 b))
theorem uh{Q:Value->Shared->Prop}{v:V}(T:jC X.K a D)(I:Inv X pins σ H s)(hd:KTD.datumAt k D=some v)(h:∀u,RelV v u->Q u {s with toks:=s.toks+1}):wpAny (model X.prog X.w) A (getItem (.ref a) (.str k tk)) Q E s:=by
 have ty:=T.typeIs I;unfold getItem;try with_reducible refine d8 ?_
 refine zQ00 (wpAny_sequenceKey ty (by decide) ?_);refine zQ00 (wpAny_callSpecial?_slot (name:=Str.ofString "__getitem__") ty slot_dict_getitem (eG slot_dict_getitem ty entry_dict_getitem ?_ (args_dict_getitem _ _)));show wpAny (model X.prog X.w) _ (dictGet a (.str k tk)>>=_) _ _ s;refine zQ00 (qC T I (λb u e r=>?_) λhn=>?_);·rw[hd]at e;cases e;exact zQ02 ⟨u,rfl,zQ02 (h u r)⟩
 ·rw[hd]at hn;cases hn
end
section
variable{X:Cx}
noncomputable def Fn(K:PySem.W.Frag):R2:=λx y H Q=>∃a D k v,x= .ref a/\y= .str k/\jC K a D/\KTD.datumAt k D=some v/\Q v H
theorem zI{o i:Expr}{m:Pos}{c ty:TE}(ho:PE X o c)(hi:PE X i ty)(l:AE i):PE X (.Subscript o i m) (Cz (Fn X.K) c ty):=by intro pins s σ H Q I h;refine rg PySem.F.slot_dict_getitem.lookup l (bp (ho pins s σ H _ I h) λu s1⟨x,d,g,n,q1⟩=>bp (hi pins s1 σ d _ g q1) λw s2 q=>?_);obtain⟨y,f,b,p,a,D,k,v,ex,j,T,e,q2⟩:=q;subst ex j;cases n;obtain⟨t,rfl⟩:=p;exact⟨T.typeIs b,uh T b e λu r=>⟨v,f,b.tok _,r,q2⟩⟩
end
end L3
end
section
namespace KM
open PySem
inductive D where|bj|bl(b:Bool)|int(i:Int)|str(x:Str)|tup(ds:List D)deriving Inhabited
mutual noncomputable def aM:D->Nat| .tup ds=>1+aK ds| .bj=>0| .bl _=>0| .int _=>0| .str _=>0 noncomputable def aK:List D->Nat|[]=>0|d::r=>aM d+aK r end
mutual noncomputable def depth:D->Nat| .tup ds=>1+aF ds| .bj=>0| .bl _=>0| .int _=>0| .str _=>0 noncomputable def aF:List D->Nat|[]=>0|d::r=>max (depth d) (aF r)end
noncomputable def isTup:D->Bool| .tup _=>true|_=>false
noncomputable def tk:D->List D| .tup ds=>ds.filter isTup|_=>[]
theorem iE:∀l r:List D,aK (l++r)=aK l+aK r|[],r=>by simp[aK]|d::l,r=>by simp[aK,iE l r];lia
theorem jI:∀l r:List D,aF (l++r)=max (aF l) (aF r)|[],r=>by simp[aF]|d::l,r=>by simp only[List.cons_append,aF,jI l r];exact(Nat.max_assoc _ _ _).symm
theorem vX{ds:List D}{n:Nat}(h:aF ds<=n):depth (.tup ds)<=n+1:=by simp only[depth];lia
theorem d7{d:D}{ds:List D}{n:Nat}(h1:depth d<=n)(h2:aF ds<=n):aF (d::ds)<=n:=by simp only[aF];exact Nat.max_le.mpr ⟨h1,h2⟩
theorem vh{n:Nat}:aF []<=n:=zQ08 _
theorem vk{x:Str}{n:Nat}:depth (.str x)<=n:=zQ08 _
theorem AZ{x:Str}{n:Nat}(h:1<=n):depth (.tup [.str x])<=n:=by simpa[depth,aF]using h
theorem J3{x:Str}{i:Int}{n:Nat}(h:1<=n):depth (.tup [.str x, .int i])<=n:=by simpa[depth,aF]using h
end KM
end
section
namespace L3
open PySem PySem.Spec PyProof.Rows L2 KM
mutual/--v stands for d on the heap H -/noncomputable def Rep(H:Hp):D->V->Prop| .bj,v=>v= .bj| .bl b,v=>v= .bl b| .int i,v=>v= .int i| .str x,v=>v= .str x/\x.length<=1000| .tup ds,v=>∃a vs,v= .ref a/\H a=some (.tup vs)/\bF H ds vs noncomputable def bF(H:Hp):List D->List V->Prop|[],vs=>vs=[]|d::ds,vs=>∃v r,vs=v::r/\Rep H d v/\bF H ds r end
mutual theorem Rep.mono{H H':Hp}(h:aT H H'):∀{d:D}{v:V},Rep H d v->Rep H' d v| .bj,_,r=>r| .bl _,_,r=>r| .int _,_,r=>r| .str _,_,r=>r| .tup _,_,⟨a,vs,e,q,r⟩=>⟨a,vs,e,h _ _ q,bF.mono h r⟩theorem bF.mono{H H':Hp}(h:aT H H'):∀{ds:List D}{vs:List V},bF H ds vs->bF H' ds vs|[],_,r=>r|_::_,_,⟨v,r,e,q,t⟩=>⟨v,r,e,Rep.mono h q,bF.mono h t⟩end
theorem bF.length{H:Hp}:∀{ds:List D}{vs:List V},bF H ds vs->vs.length=ds.length|[],_,r=>by have r:_=[]:=r;rw[r];rfl|_::_,_,⟨v,r,e,q,t⟩=>by rw[e,ig,ig,bF.length t]
theorem bF.get{H:Hp}:∀{ds:List D}{vs:List V}{i:Nat}{d:D},bF H ds vs->ds[i]?=some d->∃v,vs[i]?=some v/\Rep H d v|[],_,_,_,_,e=>by simp at e|d::_,_,0,_,⟨v,r,e,q,t⟩,h=>by simp at h;subst h;exact⟨v,by rw[e];rfl,q⟩|_::ds,_,i+1,d,⟨v,r,e,q,t⟩,h=>by obtain⟨u,h1,h2⟩:=bF.get (i:=i) t (by simpa using h);exact⟨u,by rw[e];simpa using h1,h2⟩
theorem bF.append{H:Hp}:∀{ds es:List D}{vs us:List V},bF H ds vs->bF H es us->bF H (ds++es) (vs++us)|[],_,_,_,r,q=>by have r:_=[]:=r;subst r;exact q|_::_,_,_,_,⟨v,r,e,p,t⟩,q=>by subst e;exact⟨v,r++_,rfl,p,bF.append t q⟩
theorem bF.one{H:Hp}{d:D}{v:V}(r:Rep H d v):bF H [d] [v]:=⟨v,[],rfl,r,rfl⟩
theorem bF.snoc{H:Hp}{ds:List D}{vs:List V}{d:D}{v:V}(r:bF H ds vs)(q:Rep H d v):bF H (ds++[d]) (vs++[v]):=r.append (bF.one q)
noncomputable def GW:D->String| .bj=>"NoneType"| .bl _=>"bool"| .int _=>"int"| .str _=>"str"| .tup _=>"tuple"
theorem Rep.ty{K:PySem.W.Frag}{H:Hp}:∀{d:D}{v:V},Rep H d v->fg K H v (.type (GW d))| .bj,_,r=>by cases(show _=V.bj from r);exact .bj| .bl b,_,r=>by cases(show _=V.bl b from r);exact .bl b| .int i,_,r=>by cases(show _=V.int i from r);exact .int i| .str x,_,r=>by cases(show _=V.str x from r.1);exact .str x| .tup _,_,⟨a,vs,e,q,_⟩=>by cases e;exact .tup q
noncomputable def aR:D->Bool| .str _=>true|_=>false
noncomputable def B0:D->Bool| .bl _=>true|_=>false
theorem rN(K:PySem.W.Frag)(d:D):PySem.W.kitOne K (.type (GW d)) (.type "tuple")=some (isTup d):=by cases d<;>rfl
theorem uc(K:PySem.W.Frag)(d:D):PySem.W.kitOne K (.type (GW d)) (.type "bool")=some (B0 d):=by cases d<;>rfl
theorem ab{H:Hp}{p:Addr}(h:H p=none)(o:HO):aT H (upd H p o):=λb u q=>by rw[aG (aB q h)];exact q
end L3
end
section
namespace L3
open PySem PySem.Spec PyProof.Rows L2
noncomputable def F_(e:TE)(tl f g:TO):TE:=λσ H Q=>e σ H λx a=>tl σ a λ_ b=>f σ b λ_ c=>g σ c λst d=>∃z,x= .str z/\z.length<=sizeLine/\st≠some 0/\∀y:Str,y.length<=z.length->Q (.str y) d
theorem part_of{u:Value}{o:Option Int}(p:IsPart u o):∃q:Option (Int×Tok),u=partValue q/\q.map (·.1)=o:=by cases p with|none=>exact⟨none,rfl,rfl⟩|int i t=>exact⟨some (i,t),rfl,rfl⟩
theorem iN{X:Cx}{e:Expr}{lo hi st:Option Expr}{j S:Pos}{r:TE}{tl w A:TO}(he:PE X e r)(hl:PO X lo tl)(O:PO X hi w)(ht:PO X st A)(hb:∀o i,∃ops,subscripted (.Slice lo hi st j) false o i=operate ops (getItem o i):=by intro o i;exact⟨_,rfl⟩):PE X (.Subscript e (.Slice lo hi st j) S) (F_ r tl w A):=by
 intro pins s σ H Q I h;refine Subscript_ (bp (he pins s σ H _ I h) λv s1 m=>?_);obtain⟨x,B,E,V,q1⟩:=m;refine wpAny_Slice (bp (hl pins s1 σ B _ E q1) λvl s2⟨l,C,F,R,q2⟩=>bp (O pins s2 σ C _ F q2) λvu W⟨u,D,G,U,q3⟩=>bp (ht pins W σ D _ G q3) λvt a m=>?_);obtain⟨t,n,J,pt,z,L,P,N,q⟩:=m;subst L;obtain⟨tk,rfl⟩:=V;obtain⟨d,rfl,Y⟩:=part_of R;obtain⟨f,rfl,Z⟩:=part_of U;obtain⟨c,rfl,M⟩:=part_of pt;have K:Inv X pins σ n {a with heap:=a.heap.push {cls:= .type "slice",data:= .fields #[partValue d,partValue f,partValue c]}}:=J.kept (t':=a.toks) λb ob q=>zQ01 _ q;have p:((c.map (·.1)).getD 1==0)=false:=by rw[M];cases t with|none=>rfl|some i=>simpa usingλz=>N (by rw[z])
 show wpAny (model X.prog X.w) X.A (subscriptTail e (.Slice lo hi st j) (.str z tk) (.ref a.heap.objs.size)) (EP X pins σ Q) X.xe _;obtain⟨ops,hb⟩:=hb (.str z tk) (.ref a.heap.objs.size);refine tail_any (ops:=ops) (T:="str") (typeIs_str _ _ _) PySem.F.slot_str_getitem.lookup (wpAny_getItem_str_slice (l:=d) (u:=f) (st:=c) ⟨_,zQ09 _ rfl,rfl,rfl⟩ p ?_) hb;have fin:∀y:Str,y.length<=z.length->∀t' k,EP X pins σ Q (.str y t') {a with heap:=a.heap.push {cls:= .type "slice",data:= .fields #[partValue d,partValue f,partValue c]},toks:=k}:=λy g t' k=>⟨.str y,n,K.tok k,⟨t',rfl⟩,q y g⟩;unfold sliceMade;split;·exact fin z (zQ04 _) _ _
 ·have g:(Str.mk ((slicePicked z d f c).filterMap (z.cps[·]?)).toArray).length<=z.length:=by show(List.filterMap _ (slicePicked z d f c)).toArray.size<=z.length;rw[bY];refine bM (List.length_filterMap_le _ _) ?_;exact sliceIndicesBy_le _ _ _ (by simpa using p) z.length
  exact⟨bM g P,fin _ g _ _⟩
noncomputable def G9(t u:TS):TS:=λD σ H=>∃M:L2.St->Hp->Prop,t {D with nx:=M} σ H/\∀a H',M a H'->u D a H'
theorem eR{X:Cx}{st:Stmt}{rest:List Stmt}{t u:TS}(h1:PS X st t)(h2:jL X rest u):jL X (st::rest) (G9 t u):=by intro pins s σ H D I h;obtain⟨M,h,c⟩:=h;refine wpAny_execs_cons (bp (h1 pins s σ H {D with nx:=M} I h) λf s1 q=>?_);cases f with|next=>obtain⟨a,H',b,q⟩:=q;exact h2 pins s1 a H' D b (c a H' q)|ret v=>exact q|brk=>exact q|cont=>exact q
theorem jH{J:It}{g:TG}{tb:TS}{D:Ends}{σ:L2.St}{H:Hp}(n:Nat)(Pv:Nat->L2.St->Hp->Prop)(h:Pv 0 σ H)(j:∀i σ H,i<n->Pv i σ H->J.go i H/\∀x H',J.tS i H x H'->g x σ H' λc a=>tb {D with nx:=Pv (i+1),ct:=Pv (i+1),bk:=D.nx} c a)(hd:∀σ H,Pv n σ H->J.stop n H/\D.nx σ H):∃W:Nat->Nat->L2.St->Hp->Prop,(∃m,W 0 m σ H)/\∀i m σ H,W i m σ H->(J.stop i H/\D.nx σ H)\/(J.go i H/\∃N:L2.St->Hp->Prop,(∀b H',N b H'->∃d,d<m/\W (i+1) d b H')/\∀x H',J.tS i H x H'->g x σ H' λc a=>tb {D with nx:=N,ct:=N,bk:=D.nx} c a):=by
 refine⟨λi m σ H=>m=n-i/\i<=n/\Pv i σ H,⟨n,by simp,zQ08 _,h⟩,?_⟩;rintro i m σ H⟨rfl,hi,p⟩;by_cases hlt:i<n;·obtain⟨e,f⟩:=j i σ H hlt p;exact .inr ⟨e,Pv (i+1),λb H' k=>⟨n-(i+1),by lia,rfl,hlt,k⟩,f⟩
 ·obtain rfl:i=n:=by lia
  exact .inl (hd σ H p)
def cx(p:Addr)(H H':Hp):Prop:=∀b o,b≠p->H b=some o->H' b=some o
theorem cx.trans{p:Addr}{H d e:Hp}(a:cx p H d)(b:cx p d e):cx p H e:=λc o n h=>b c o n (a c o n h)
theorem _root_.L2.aT.x{p:Addr}{H H':Hp}(a:aT H H'):cx p H H':=λc o _ h=>a c o h
theorem cx.upd{p:Addr}{H:Hp}(o:HO):cx p H (upd H p o):=λb u n h=>by rw[aG n];exact h
mutual theorem Rep.iM{p:Addr}{H H':Hp}(h:cx p H H')(hp:∀vs,H p≠some (.tup vs)):∀{d:KM.D}{v:V},Rep H d v->Rep H' d v| .bj,_,r=>r| .bl _,_,r=>r| .int _,_,r=>r| .str _,_,r=>r| .tup _,_,⟨a,vs,e,q,r⟩=>⟨a,vs,e,h _ _ (λz=>hp vs (by rw[<-z];exact q)) q,bF.iM h hp r⟩theorem bF.iM{p:Addr}{H H':Hp}(h:cx p H H')(hp:∀vs,H p≠some (.tup vs)):∀{ds:List KM.D}{vs:List V},bF H ds vs->bF H' ds vs|[],_,r=>r|_::_,_,⟨v,r,e,q,t⟩=>⟨v,r,e,Rep.iM h hp q,bF.iM h hp t⟩end
section
variable{prog:Program}{w:World}{A:Around}{E:Value->Shared->Prop}{s:Shared}{d:Addr}{o:Obj}{es:Array DictEntry}{ep:Nat}{xh:Int}
end
section
variable{X:Cx}{pins:List (Addr×Obj)}{σ:L2.St}{H:Hp}{s:Shared}{a:Addr}{D:List (Str×V)}{A:Around}{E:Value->Shared->Prop}
end
end L3
end
section
namespace L3
open PySem L2
section
variable{prog:Program}{w:World}{A:Around}{E:Value->Shared->Prop}{s:Shared}
theorem A3{it t:Addr}{i:Nat}{d:Array Value}{x:Value}{Q:Value->Shared->Prop}(c:s.heap.IsListIter it t i)(gt:s.heap.IsList t d)(h:d[i]?=some x)(j:∀h',h'.IsListIter it t (i+1)->Heap.SameBut it s.heap h'->Q x {s with heap:=h'}):wpAny (model prog w) A (Builtin.SmallTypes.nextOf (.ref it)) Q E s:=by obtain⟨l,b,e,a⟩:=id c;obtain⟨m,g,_,k,f⟩:=gt;unfold Builtin.SmallTypes.nextOf;refine zQ00 (wpAny_callSpecial?_slot (name:=Str.ofString "__next__") c.typeIs slot_listiter_next (eG slot_listiter_next c.typeIs entry_listiter_next ?_ (args_listiter_next _)));show wpAny (model prog w) _ (field (.ref it) 0>>=_) _ _ s;refine zQ00 (cP b a (x:= .ref t) rfl ?_);show wpAny (model prog w) _ (if(Value.ref t==Value.none)=true then _ else _) _ _ s;rw[if_neg (show¬(Value.ref t==Value.none)=true from cJ)];show wpAny (model prog w) _ (field (.ref it) 1>>=_) _ _ s;refine zQ00 (cP b a (x:= .int i 0) rfl ?_);show wpAny (model prog w) _ (seqItems? (.ref t)>>=_) _ _ s;refine zQ00 (wpAny_seqItems g f ?_);simp only[Int.toNat_natCast,h];refine zQ00 (wpAny_setField b a (by simp) (zQ02 ⟨x,rfl,zQ02 (j _ ?_ (Heap.SameBut.update ..))⟩));refine⟨_,Heap.get?_update_self _ b (Obj.isFreed_of_fields (Obj.data_mapFields a _)),(Obj.cls_mapFields ..).trans e,?_⟩;rw[Obj.data_mapFields a];simp[rawInt]
theorem pe{it t:Addr}{i:Nat}{f:Array Value}{Q:Value->Shared->Prop}(hb:HB s.heap A)(na:∀a,A.handled=some (.ref a)->a≠it)(d:s.heap.IsListIter it t i)(gt:s.heap.IsList t f)(j:f[i]?=none)(l:∀h' e,Heap.ExtBut it s.heap h'->(∃o,h'.get? e=some o/\o.cls= .type "StopIteration")->E (.ref e) {s with heap:=h'}):wpAny (model prog w) A (Builtin.SmallTypes.nextOf (.ref it)) Q E s:=by obtain⟨p,c,m,b⟩:=id d;obtain⟨q,h,_,n,g⟩:=gt;unfold Builtin.SmallTypes.nextOf;refine zQ00 (wpAny_callSpecial?_slot (name:=Str.ofString "__next__") d.typeIs slot_listiter_next (eG slot_listiter_next d.typeIs entry_listiter_next ?_ (args_listiter_next _)));show wpAny (model prog w) _ (field (.ref it) 0>>=_) _ _ s;refine zQ00 (cP c b (x:= .ref t) rfl ?_);show wpAny (model prog w) _ (if(Value.ref t==Value.none)=true then _ else _) _ _ s;rw[if_neg (show¬(Value.ref t==Value.none)=true from cJ)];show wpAny (model prog w) _ (field (.ref it) 1>>=_) _ _ s;refine zQ00 (cP c b (x:= .int i 0) rfl ?_);show wpAny (model prog w) _ (seqItems? (.ref t)>>=_) _ _ s;refine zQ00 (wpAny_seqItems h g ?_);simp only[Int.toNat_natCast,j];refine zQ00 (wpAny_rule (zQ00 (wpAny_setField c b (by simp) ?_)));exact dG (A:=A.in1) (hb.upd na) λh' e k he=>l h' e (iz k) he
end
theorem gF{prog:Program}{w:World}{A:Around}(it t:Addr)(ne:t≠it)(na:∀a,A.handled=some (.ref a)->a≠it)(c:Array Value):Draws prog w A it (it::t::iJ A) c.size (λi v=>c[i]?=some v) (λi h=>h.IsListIter it t i/\h.IsList t c/\HB h A)where
 live:=λ_ _ st=>let⟨o,ho,_⟩:=st.1;⟨o,ho⟩;frame:=λi h h' st d=>by obtain⟨⟨f,j,q⟩,⟨g,k,r⟩,hb⟩:=st;exact⟨⟨f,d it (by simp) f j,q⟩,⟨g,d t (by simp) g k,r⟩,hb.frame λb hb=>d b (by simp[hb])⟩
 item:=λi s Q E hi st n=>by refine A3 st.1 st.2.1 (x:=c[i]) (by simp[hi]) λh' p e=>?_;exact n _ h' s.toks (by simp[hi]) ⟨p,st.2.1.extBut e.extBut ne,st.2.2.mono λa o l eo=>e.extBut a o (na a l) eo⟩ e
 done:=λs Q E st m=>pe st.2.2 na st.1 st.2.1 (by simp) m
noncomputable abbrev E7(h:Heap)(a:Addr):Heap:=h.push {cls:= .type "list_iterator",data:= .fields #[.ref a, .int 0 0]}
noncomputable abbrev EG(h:Heap)(a b:Addr):Heap:=(E7 h a).push {cls:= .type "list_iterator",data:= .fields #[.ref b, .int 0 0]}
noncomputable abbrev EJ(h:Heap)(a b:Addr):Heap:=(EG h a b).push {cls:= .type "tuple",data:= .seq #[.ref h.objs.size, .ref (E7 h a).objs.size]}
noncomputable abbrev E4(h:Heap)(a b:Addr):Heap:=(EJ h a b).push {cls:= .type "tuple",data:= .seq #[.none, .none]}
noncomputable abbrev Bu(h:Heap)(a b:Addr):Heap:=(E4 h a b).push {cls:= .type "zip",data:= .fields #[.none, .bool false, .bool false, .ref (EG h a b).objs.size, .ref (EJ h a b).objs.size]}
theorem pN(a b:Addr)(xs e:Array Value):Meets (Builtin.«zip.__new__» ⟨[.type "zip", .ref a, .ref b],[]⟩) (λ_ R s=>s.heap.IsList a xs/\s.heap.IsList b e/\R (.ok (.ret (.ref (E4 s.heap a b).objs.size))) {s with heap:=Bu s.heap a b}):= .of_wp λprog w A R s h=>by obtain⟨c,g,d,tk,os⟩:=s;obtain⟨f,i,h⟩:=h;have hsub:=sub_zip;have j:Heap.IsList (Shared.heap ⟨c,g,d,tk,os⟩) a xs:=f;have k:Heap.IsList (Shared.heap ⟨c.push {cls:= .type "list_iterator",data:= .fields #[.ref a, .int 0 0]},g,d,tk,os⟩) b e:=Heap.IsList.push i _;wp_walk using wpAny_pyIter_list j,wpAny_pyIter_list k;exact⟨_,rfl,h⟩
section
variable{prog:Program}{w:World}{A:Around}{E:Value->Shared->Prop}{s:Shared}
theorem sR{a b:Addr}{xs m:Array Value}{Q:Value->Shared->Prop}(n:s.heap.IsList a xs)(p:s.heap.IsList b m)(h:∀h',IsZip h' (s.heap.objs.size+4) (s.heap.objs.size+2) (s.heap.objs.size+3) .none->IsPair h' (s.heap.objs.size+2) (.ref s.heap.objs.size) (.ref (s.heap.objs.size+1))->IsPair h' (s.heap.objs.size+3) .none .none->h'.IsListIter s.heap.objs.size a 0->h'.IsListIter (s.heap.objs.size+1) b 0->(∀c o,s.heap.get? c=some o->h'.get? c=some o)->Q (.ref (s.heap.objs.size+4)) {s with heap:=h'}):wpAny (model prog w) A (call (.type "zip") [.ref a, .ref b]) Q E s:=by
 refine callType_new F.called_zip (by decide) (F.typeCall_zip_2 _ _) (F.newCall_zip_2 _ _) (λobj=>F.args_object_init_3 obj _ _) F.entry_zip_new (pN a b xs m) ⟨n,p,?_⟩;have d:(E7 s.heap a).objs.size=s.heap.objs.size+1:=zQ20 ..;have e:(EG s.heap a b).objs.size=s.heap.objs.size+2:=by rw[zQ20,d]
 have f:(EJ s.heap a b).objs.size=s.heap.objs.size+3:=by rw[zQ20,e]
 have i:(E4 s.heap a b).objs.size=s.heap.objs.size+4:=by rw[zQ20,f]
 have g:(Bu s.heap a b).get? (E4 s.heap a b).objs.size=some _:=zQ09 _ rfl;have l:(Bu s.heap a b).get? (EJ s.heap a b).objs.size=some _:=zQ01 _ (zQ09 _ rfl);have k:(Bu s.heap a b).get? (EG s.heap a b).objs.size=some _:=zQ01 _ (zQ01 _ (zQ09 _ rfl));have j:(Bu s.heap a b).get? (E7 s.heap a).objs.size=some _:=zQ01 _ (zQ01 _ (zQ01 _ (zQ09 _ rfl)));have r:(Bu s.heap a b).get? s.heap.objs.size=some _:=zQ01 _ (zQ01 _ (zQ01 _ (zQ01 _ (zQ09 _ rfl))));show _/\_;rw[e,f,i]at g;rw[d,e]at k;rw[f]at l;rw[d]at j;rw[i];refine⟨⟨_,g,rfl⟩,h _ g k l ⟨_,r,rfl,rfl⟩ ⟨_,j,rfl,rfl⟩ λc o q=>?_⟩;exact zQ01 _ (zQ01 _ (zQ01 _ (zQ01 _ (zQ01 _ q))))
end
end L3
end
section
namespace L3
open PySem PySem.Spec PyProof.Rows L2
theorem kX{X:Cx}{pins:List (Addr×Obj)}{σ:L2.St}{H:Hp}{s:Shared}{a d:Addr}{xs:List V}(I:Inv X pins σ H s)(q:bQ X.K H a xs)(f:f_ X pins H d):a≠d:=λz=>by
 subst z;rcases q with(q|⟨o,q⟩)|⟨o,_,_,q,_⟩;·rw[f.1]at q;cases q
 ·rw[f.1]at q;cases q
 ·have e:=I.ok.mod.Dk a o q;rcases f.2.2.2.1 with z|z;·exact I.ok.oM a o e z
  ·exact absurd (dk (zQ05 e) I.ok.vD) (Nat.not_lt.mpr z)
noncomputable def Eg(K:PySem.W.Frag)(a b:Addr):It:=⟨λi H=>∃xs c x y,bQ K H a xs/\bQ K H b c/\xs[i]?=some x/\c[i]?=some y,λi H v H'=>∃p x y,v= .ref p/\H p=none/\H'=upd H p (.tup [x,y])/\∀xs c,bQ K H a xs->bQ K H b c->xs[i]?=some x/\c[i]?=some y,λi H=>∃xs c,bQ K H a xs/\bQ K H b c/\xs.length=i⟩
structure DA(a b z TI TO i1 i2:Addr)(i:Nat)(h:Heap):Prop where
 z:IsZip h z TI TO .none
 TI:IsPair h TI (.ref i1) (.ref i2)
 TO:∃u v,IsPair h TO u v
 i1:h.IsListIter i1 a i
 i2:h.IsListIter i2 b i
theorem sP{P:Program}{w:World}{K:PySem.W.Frag}{es:List Expr}{k:Nat}{pos:Pos}(a b n:Nat):Turn P w K (.Tuple es k pos) (Eg K a b) [n+4,n+2,n+3,n,n+1] (n+4) (DA a b (n+4) (n+2) (n+3) n (n+1))where
 mem:=by simp
 obj:=λi h st c hc=>by
  simp only[zQ26,zQ27,or_false]at hc;obtain⟨B,l,_,d1⟩:=st.i1;obtain⟨M,m,_,d2⟩:=st.i2;obtain⟨u,v,eo⟩:=st.TO;rcases hc with rfl|rfl|rfl|rfl|rfl;·exact⟨_,st.z,λv q=>by cases q⟩
  ·exact⟨_,st.TI,λv q=>by cases q⟩
  ·exact⟨_,eo,λv q=>by cases q⟩
  ·exact⟨B,l,λv q=>by rw[d1]at q;cases q⟩
  ·exact⟨M,m,λv q=>by rw[d2]at q;cases q⟩
 keep:=λi h h' st kp=>by obtain⟨B,l,r1⟩:=st.i1;obtain⟨M,m,r2⟩:=st.i2;obtain⟨u,v,eo⟩:=st.TO;exact⟨kp _ (by simp) _ st.z,kp _ (by simp) _ st.TI,⟨u,v,kp _ (by simp) _ eo⟩,⟨B,kp _ (by simp) _ l,r1⟩,⟨M,kp _ (by simp) _ m,r2⟩⟩
 item:=by
  intro X F hw D hc i pins s σ H E I f st G;subst F hw D;obtain⟨xs,ys,x,y,q1,q2,W,Y⟩:=G;obtain⟨r,O,N,_⟩:=I.list q1;obtain⟨J,Ih,p2,_⟩:=I.list q2;obtain⟨R,U,GR⟩:=O.get W;obtain⟨S,V,Gj⟩:=Ih.get Y;obtain⟨u,v,eo⟩:=st.TO;have Z:=zQ05 st.z;have l1:i<r.toArray.size:=by rw[bY];exact(List.getElem?_eq_some_iff.mp U).1
  have l2:i<J.toArray.size:=by rw[bY];exact(List.getElem?_eq_some_iff.mp V).1
  have na:∀d∈[n+4,n+2,n+3,n,n+1],a≠d:=λd hd=>kX I q1 (f d hd);have p:∀d∈[n+4,n+2,n+3,n,n+1],b≠d:=λd hd=>kX I q2 (f d hd);have j:gs (n+4) (n+2) (n+3) n (n+1) (n::a::iJ X.A.in1) ((n+1)::b::iJ X.A.in1):=by have L:∀d∈[n+4,n+2,n+3,n,n+1],d∉iJ X.A.in1:=λd hd z=>I.Br hc (f d hd).2.2.2.1 (f d hd).2.2.2.2.2 d (nT z) rfl;have a1:=na (n+4) (by simp);have a2:=na (n+3) (by simp);have a3:=na (n+1) (by simp);have b1:=p (n+4) (by simp);have b2:=p (n+3) (by simp);have b3:=p n (by simp);constructor<;>(try simp only[zQ26,not_or])<;>first|lia|exact⟨by lia,by lia,L _ (by simp)⟩
  have C:∀d∈[n+4,n+2,n+3,n,n+1],∀a,X.A.in1.handled=some (.ref a)->a≠d:=λd hd=>I.Br hc (f d hd).2.2.2.1 (f d hd).2.2.2.2.2;refine sY (gF n a (na n (by simp)) (C n (by simp)) r.toArray) (gF (n+1) b (p (n+1) (by simp)) (C (n+1) (by simp)) J.toArray) j st.z st.TI eo ⟨st.i1,N.isList,I.hb hc⟩ ⟨st.i2,p2.isList,I.hb hc⟩ l1 l2 λx' y' h1 tk l m z1 B s1 s2 pr kp=>?_;have l:r.toArray[i]?=some x':=l;have m:J.toArray[i]?=some y':=m;have ex:R=x':=by rw[List.getElem?_toArray,U]at l;exact Option.some.inj l
  have ey:S=y':=by rw[List.getElem?_toArray,V]at m;exact Option.some.inj m
  subst ex ey;refine⟨_,rfl,wpAny_letOwnedTupleGo_zip (s:={s with heap:=h1,toks:=tk}) z1 λh2 z2 sb=>?_⟩;have lt:∀d∈[n+4,n+2,n+3,n,n+1],d<s.heap.objs.size:=λd hd=>by
   have :d<=n+4:=by simp at hd;lia
   exact Nat.lt_of_le_of_lt this Z
  have t:∀c o,c≠n+4->h1.get? c=some o->h2.get? c=some o:=λc o g e=>(sb.2 c g).trans e;have K6:h2.get? s.heap.objs.size=some {cls:= .type "tuple",data:= .seq #[R,S]}:=t _ _ (Nat.ne_of_gt Z) pr;refine⟨.ref s.heap.objs.size,_,sI (s:=s) (h':=h2) (t':=tk) (ch:=[n+4,n+3,n,n+1]) (T:=s.heap.objs.size) (o:= .tup [x,y]) I (λc o g e=>?_) (λd hd=>f d (by simp only[zQ26,zQ27,or_false]at hd⊢;rcases hd with z|z|z|z<;>simp[z])) (zQ04 _) ?_,rfl,⟨_,x,y,rfl,I.bD.fresh (zQ04 _),rfl,λMh Mn a1 a2=>?_⟩,?_,λd hd=>?_⟩;·simp only[zQ26,zQ27,or_false,not_or]at g;exact t c o g.1 (kp c o g.1 g.2.1 g.2.2.1 g.2.2.2 e)
  ·exact⟨(dh rfl),[R,S], .cons GR (.cons Gj .nil),⟨_,K6,rfl,_,rfl⟩⟩
  ·rw[I.mX a1 q1,I.mX a2 q2];exact⟨W,Y⟩
  ·obtain⟨⟨oa,ea,ra⟩,_⟩:=s1;obtain⟨⟨ob,eb,rb⟩,_⟩:=s2;refine⟨z2,t _ _ j.TIz (kp _ _ j.TIz j.TITO j.KA j.Kw st.TI),⟨_,_,t _ _ (by lia) B⟩,⟨oa,t _ _ (by lia) ea,ra⟩,⟨ob,t _ _ (by lia) eb,rb⟩⟩
  ·rw[aG (zQ15 (lt d hd))];exact(f d hd).1
 done:=by
  intro X F hw D hc i pins s σ H E I f st G;subst F hw D;obtain⟨xs,ys,q1,q2,hl⟩:=G;obtain⟨r,O,N,_⟩:=I.list q1;obtain⟨u,v,eo⟩:=st.TO;have na:∀d∈[n+4,n+2,n+3,n,n+1],a≠d:=λd hd=>kX I q1 (f d hd);have p:∀d∈[n+4,n+2,n+3,n,n+1],b≠d:=λd hd=>kX I q2 (f d hd);have j:gs (n+4) (n+2) (n+3) n (n+1) (n::a::iJ X.A.in1) ((n+1)::b::iJ X.A.in1):=by have L:∀d∈[n+4,n+2,n+3,n,n+1],d∉iJ X.A.in1:=λd hd z=>I.Br hc (f d hd).2.2.2.1 (f d hd).2.2.2.2.2 d (nT z) rfl;have a1:=na (n+4) (by simp);have a2:=na (n+3) (by simp);have a3:=na (n+1) (by simp);have b1:=p (n+4) (by simp);have b2:=p (n+3) (by simp);have b3:=p n (by simp);constructor<;>(try simp only[zQ26,not_or])<;>first|lia|exact⟨by lia,by lia,L _ (by simp)⟩
  have hi:r.toArray.size=i:=by rw[bY,<-O.length];exact hl
  subst hi;have C:∀d∈[n+4,n+2,n+3,n,n+1],∀a,X.A.in1.handled=some (.ref a)->a≠d:=λd hd=>I.Br hc (f d hd).2.2.2.1 (f d hd).2.2.2.2.2;refine sL (gF n a (na n (by simp)) (C n (by simp)) r.toArray) j st.z st.TI eo ⟨st.i1,N.isList,I.hb hc⟩ λh1 kp=>⟨rfl,?_⟩;refine wZ (t':=s.toks) (ch:=[n+4,n+3,n,n+1]) I (λc o g e=>?_) λd hd=>f d (by simp only[zQ26,zQ27,or_false]at hd⊢;rcases hd with z|z|z|z<;>simp[z]);simp only[zQ26,zQ27,or_false,not_or]at g;exact kp c o g.1 g.2.1 g.2.2.1 g.2.2.2 e
 self:=λA i s Q E st h=>wpAny_pyIter_zip st.z h
noncomputable def BH(K:PySem.W.Frag)(d:TA):TI:=λσ H R=>d σ H λvs c=>∃a b xs e,vs=[.ref a, .ref b]/\bQ K c a xs/\bQ K c b e/\R (Eg K a b) c
theorem xt{X:Cx}{es:List Expr}{k:Nat}{F:Pos}{a b:Expr}{j:TA}{p i:Pos}(o:Gl X "zip")(hm:X.mg "zip"=none)(ha:PA X [a,b] j)(r:starEach [a,b] X.env=[(false,eval a X.env),(false,eval b X.env)]:=by rfl)(g:starEach [b] X.env=[(false,eval b X.env)]:=by rfl):PI X (.Tuple es k F) (.Call (.Name "zip" p) [a,b] [] i) (BH X.K j):=by
 intro pins s σ H R I h;refine Call_ (fk I o hm boot_zip (PyProof.Rows.callWith_type1 (bp (ha i pins s σ H _ I h) λus s1⟨vs,f,c,y,q1⟩=>?_) (by rw[r,g]) (by rw[g];rfl)));obtain⟨a1,n,xs,O,e,t,u,q⟩:=q1;subst e;obtain⟨M,N,rfl,A,B⟩:=Vals.two y;cases A;cases B;obtain⟨G,K,w,_⟩:=c.list t;obtain⟨J,L,x,_⟩:=c.list u;refine sR w.isList x.isList λh1 l E v C D kp=>?_;refine wpAny_pyIter_zip (s:={s1 with heap:=h1}) l ?_;have m:Inv X pins σ f {s1 with heap:=h1}:=c.kept (t':=s1.toks) kp;refine⟨_,_,_,_,f,rfl,m,sP a1 n s1.heap.objs.size,⟨l,E,⟨_,_,v⟩,C,D⟩,λd hd=>?_,q⟩;have :s1.heap.objs.size<=d:=by simp only[zQ26,zQ27,or_false]at hd;rcases hd with z|z|z|z|z<;>rw[z]<;>first|exact Nat.le_add_right _ _|exact zQ04 _
 exact c.zt this (c.bD.fresh this)
theorem eH:bootBuiltins "tuple"=some (.type "tuple"):=by decide+kernel
theorem uN:bootBuiltins "int"=some (.type "int"):=by decide+kernel
theorem qP:bootBuiltins "bool"=some (.type "bool"):=by decide+kernel
theorem rQ:bootBuiltins "list"=some (.type "list"):=by decide+kernel
theorem AG:bootBuiltins "set"=some (.type "set"):=by decide+kernel
theorem dR:bootBuiltins "len"=some (.builtin "len"):=by decide+kernel
theorem bS:bootBuiltins "isinstance"=some (.builtin "isinstance"):=by decide+kernel
theorem r_:bootBuiltins "sorted"=some (.builtin "sorted"):=by decide+kernel
def Df(K:PySem.W.Frag)(mg:Str->Option Value)(x:Str)(st:Stmt)(ps:List Str):Prop:=∃f fd,tV K x x st f fd/\mg x=some (.ref f)/\Binds K fd ps []
noncomputable def cv(P:Program)(w:World)(K:PySem.W.Frag)(mg:Str->Option Value)(CX:nc)(x:Str)(k:Nat)(ps:List Str)(sp:Sp):Prop:=∃f fd,(∀base,f6 P w K mg base CX k f fd ps sp)/\mg x=some (.ref f)/\PySem.W.keepIn K (.ref f)=true/\Binds K fd ps []
section
variable{P:Program}{w:World}{K:PySem.W.Frag}{mg:Str->Option Value}
theorem Df.ok{x:Str}{st:Stmt}{N ps:List Str}{k:Nat}{sp:Sp}(D:Df K mg x st ps)(S:aU N ps (ao st))(len:∀vs H Q E,sp vs H Q E->vs.length=ps.length)(a:∀(base:Heap)(f:Addr)(cZ:Value)(A:Around)(outer:List Env)(s:Shared)(H:Hp)(vs:List V)(Q:VK)(E:XK),c_ k (A.deeper (envOfC x (ao st) s.heap.objs.size f cZ))->sp vs H Q E->∃t,jL (mR bX P w K mg base N x (ao st) f cZ A outer s H E).Bt (cq st) t/\t {nx:=λ_ H'=>Q .bj H',rt:=Q} (start N vs) H):cv P w K mg bX x (k+1) ps sp:=by obtain⟨f,fd,F,m,b⟩:=D;exact⟨f,fd,λbase=>F.ok S len (a base f),m,F.kp,b⟩
theorem cv.never{x:Str}{st:Stmt}{ps:List Str}{sp:Sp}{k:Nat}{CX:nc}(D:Df K mg x st ps)(no:∀vs H Q E,¬sp vs H Q E):cv P w K mg CX x k ps sp:=by obtain⟨f,fd,F,m,b⟩:=D;exact⟨f,fd,λbase=>⟨λvs H Q E h=>absurd h (no vs H Q E),λA outer s H args us vs Q E _ _ _ _ h=>absurd h (no vs H Q E)⟩,m,F.kp,b⟩
end
noncomputable def sJ(h:Heap)(H:Hp)(fs:List Addr):Heap:=PySem.W.hideAll (i5 h H) fs
theorem nY{h:Heap}{H:Hp}{fs:List Addr}{b:Addr}{o:Obj}(e:h.get? b=some o)(n:H b=none)(a:b∉fs):(sJ h H fs).get? b=some o:=PySem.W.hideAll_get _ (mL e n) a
theorem xA{h:Heap}{H:Hp}{fs:List Addr}{b:Addr}{o:Obj}(e:(sJ h H fs).get? b=some o):h.get? b=some o/\H b=none:=qq (PySem.W.of_hideAll fs e)
theorem se(h:Heap)(H:Hp)(fs:List Addr):(sJ h H fs).objs.size=h.objs.size:=(PySem.W.hideAll_size _ _).trans (j6 h H)
theorem f7{h B c:Heap}:∀{l:List Env},h.FunFrames B l->(∀L∈mE l,c.get? L=none)->h.FunFrames c l|[],_,_=>trivial|env::l,⟨d,⟨L,o,a,_,ho,hd⟩,hr⟩,hn=>⟨d,⟨L,o,a,hn L (by unfold mE;rw[lQ,a];exact dj),ho,hd⟩,f7 hr λb hb=>hn b (by unfold mE at hb⊢;rw[lQ,a];exact d9 _ hb)⟩
theorem GQ{X:Cx}{pins:List (Addr×Obj)}{σ:L2.St}{H:Hp}{s:Shared}(I:Inv X pins σ H s)(hc:X.calm=true):vN X.prog X.w X.K X.mg (sJ s.heap H (mE X.stack)) X.A X.stack s H:=by
 have l:∀b o,X.base.get? b=some o->b∉mE X.stack:=λb o e z=>by
  rcases List.mem_cons.mp (I.gG b z)with z|z;·have :=zQ05 e;rw[z]at this;exact absurd this (Nat.not_lt.mpr (bM I.ok.vD I.ok.above))
  ·exact I.ok.BC e z
 have c:∀b o,X.base.get? b=some o->(sJ s.heap H (mE X.stack)).get? b=some o:=λb o e=>nY (I.bs b o e).1 (I.bs b o e).2 (l b o e);obtain⟨mb,f,g⟩:=I.ok.mod.blt;refine⟨I.ok.frames,⟨I.ok.mod.Dk.keeps c,I.ok.mod.glob.keeps c,⟨mb,f.keeps c,g⟩,I.ok.mod.nolimit.keeps c,I.ok.mod.bm.keeps c⟩,λb o e=>xA e,Nat.le_of_eq (se _ _ _),f7 I.stack λL k=>PySem.W.hideAll_none _ k,I.rY,I.bD,I.bare,?_⟩;rcases I.ok.hd hc with h|⟨a,oe,vs,i,d,j⟩;·exact .inl h
 ·refine .inr ⟨a,oe,vs,i,?_,j⟩;rcases d with d|d;·exact c a oe d
  ·obtain⟨q1,q2,q3,q4,_⟩:=I.pin (a,oe) (kY _ d);refine nY q1 q2 λz=>?_;rcases List.mem_cons.mp (I.gG a z)with z|z;·exact q3 z
   ·exact q4 z
theorem xn{X:Cx}{CX:nc}{k:Nat}{f:Addr}{fd:FuncData}{ps:List Str}{sp:Sp}{E:XK}{pins:List (Addr×Obj)}{σ:L2.St}{H:Hp}{s:Shared}{Q:VK}{us:List Value}{vs:List V}{a:Value->Shared->Prop}(F:∀base,f6 X.prog X.w X.K X.mg base CX k f fd ps sp)(hr:c_ k X.A)(hb:Binds X.K fd ps [])(I:Inv X pins σ H s)(hc:X.calm=true)(c:∀e s',CX X.A.handled X.stack H s E e s'->a e s')(r:Vals vs us)(h:sp vs H Q E):wpAny (model X.prog X.w) X.A (call (.ref f) us) (EP X pins σ Q) a s:=by
 have hl:us.length=ps.length:=by rw[<-r.length];exact(F (sJ s.heap H (mE X.stack))).len _ _ _ _ h
 have b:=hb s us I.j_ (by rw[List.append_nil];exact hl);rw[List.append_nil]at b;refine wpAny_call (codeAny_mono ((F _).run X.A X.stack s H ⟨us,[]⟩ us vs Q E hr (GQ I hc) b r h) λr s' hq=>?_);cases r with|error e=>exact c e s' hq|ok fl=>cases fl with|ret u=>exact I.after hq|next=>exact False.elim hq|brk=>exact False.elim hq|cont=>exact False.elim hq
theorem bz{X:Cx}{CX:nc}{x:Str}{k:Nat}{ps:List Str}{sp:Sp}{E:XK}{e:Expr}{es:List Expr}{t:TA}{p c:Pos}(F:cv X.prog X.w X.K X.mg CX x k ps sp)(hr:c_ k X.A)(i:Gl X x)(l:Passes CX X E)(ha:PA X (e::es) t)(g:(x==("__debug__":Str))=false:=by decide)(he:starEach (e::es) X.env=(false,eval e X.env)::starEach es X.env:=by rfl)(j:(backTo c (starEach es X.env)).any (·.1)=false:=by rfl)(hc:X.calm=true:=by rfl):PE X (.Call (.Name x p) (e::es) [] c) (Ce sp [] E t):=by obtain⟨f,fd,F,m,kp,b⟩:=F;intro pins s σ H Q I h;refine wpAny_Call_Name_kw (q0 I i m ?_ g);refine PySem.W.callWith_K (h₀:=X.base) I.ok.mod.Dk kp (bp (ha c pins s σ H _ I h) λus s1⟨vs,d,a,r,q⟩=>⟨a.j_,?_⟩) he j;have q:sp (vs++[]) d Q E:=q;rw[List.append_nil]at q;exact xn F hr b a hc (λe s' hc=>l pins σ d s1 e s' a hc) r q
theorem qI{X:Cx}{x:Str}{a:Addr}{c:Pos}(hm:X.mg x=some (.ref a))(b:Gl X x)(hd:(x==("__debug__":Str))=false:=by decide):PE X (.Name x c) (tC (.ref a)):=w8 b hm rfl hd
theorem nD{X:Cx}{x:Str}{n:String}{b:Pos}(hm:X.mg x=none)(hv:bootBuiltins x=some (.type n))(a:Gl X x)(hn:x≠"__name__":=by decide)(hd:(x==("__debug__":Str))=false:=by decide):PE X (.Name x b) (tC (.ty n)):=xU a hm hv rfl hn hd
noncomputable def tZ(outer:List (Str×NameKind))(N N':List Str)(own:Nat)(fr:List Nat)(scope:Scope):Bool:=scope.names.all (λy=>y.2 != .cell&&(y.2 != .local||scope.names.lookup y.1==some .local)&&(y.2 != .free||outer.lookup y.1==some .cell||outer.lookup y.1==some .free))&&decide (N'.length=own+fr.length)&&(List.range fr.length).all (λj=>match fr[j]? with
 |some i=>match N'[own+j]? with|some x=>N[i]?==some x&&scope.names.lookup x==some .free|none=>false
 |none=>true)
theorem lj{X:Cx}{N N':List Str}{own:Nat}{fr:List Nat}{sc scope:Scope}(f:X.env.scope=sc)(c:X.N=N)(d:scope.kind= .function)(h:tZ sc.names N N' own fr scope=true):fE X N' own fr scope:=by
 unfold tZ at h;simp only[cu,List.all_eq_true,decide_eq_true_eq]at h;obtain⟨⟨h1,h2⟩,h3⟩:=h;subst c;refine⟨d,λy a=>?_,λy a e=>?_,λy a e=>?_,h2,λj i e=>?_⟩;·simpa using(h1 y a).1.1
 ·have :=(h1 y a).1.2;simpa[e]using this
 ·have :=(h1 y a).2;unfold Env.kindOf;rw[f];simpa[e]using this
 ·have hj:j<fr.length:=(List.getElem?_eq_some_iff.mp e).1;have :=h3 j (by simpa using hj);rw[e]at this;cases b:N'[own+j]? with|none=>simp[b]at this|some x=>simp only[b,cu,beq_iff_eq]at this;exact⟨x,rfl,this.1,this.2⟩
section
variable{prog:Program}{w:World}{A:Around}{E:Value->Shared->Prop}{s:Shared}
end
section
variable{prog:Program}{w:World}{A:Around}{R:Result->Shared->Prop}{I:Addr}{fp wr:List Addr}{P:Nat->Value->Prop}{St:Nat->Heap->Prop}
end
section
variable{X:Cx}{pins:List (Addr×Obj)}{σ:L2.St}{H:Hp}{s:Shared}
end
theorem nU{H a:Hp}{p:Addr}{o:HO}(h:aT H a)(c:H p=none):aT H (upd a p o):=λb u q=>by rw[aG (aB q c)];exact h b u q
theorem jB{J:It}{p:Addr}{k:Hp}{g:TG}{z:TT}{w:TE}{b:L2.St}{C:Hp->Prop}(n:Nat)(f:Nat->Option V)(s:k p=none)(hn:n<=sizeLine)(D:∀i a,i<n->aT k a->J.go i a/\∀x h,J.tS i a x h->∀(R:V->Hp->Prop)(r:Hp->Prop),(∀v j,f i=some v->aT a j->R v j)->(∀d,f i=none->aT a d->r d)->g x b h λo q=>z o q λok d=>if ok=true then w o d R else r d)(hd:∀a,aT k a->a p=some (.lst ((List.range n).filterMap f))->J.stop n a/\C a):∃W:Nat->Nat->List V->Hp->Prop,(∃m,W 0 m [] (upd k p (.lst [])))/\∀i m c a,W i m c a->(J.stop i a/\C a)\/(J.go i a/\∀x h,J.tS i a x h->g x b h λo q=>z o q λok d=>if ok=true then w o d λv j=>j p=some (.lst c)/\c.length<sizeLine/\∃l,l<m/\W (i+1) l (c++[v]) (upd j p (.lst (c++[v])))else∃l,l<m/\W (i+1) l c d):=by
 refine rP (Q:=λ_ H=>C H) n (λi c a=>c=(List.range i).filterMap f/\a p=some (.lst c)/\aT k a) ⟨rfl,ai,ab s _⟩ ?_ ?_
 ·rintro i c a hi⟨rfl,h2,s2⟩;obtain⟨A,B⟩:=D i a hi s2;have E:((List.range i).filterMap f).length<sizeLine:=by have :=List.length_filterMap_le f (List.range i);rw[List.length_range]at this;lia
  refine⟨A,λx h y=>B x h y _ _ (λv j e u=>⟨u _ _ h2,E,nx hi ⟨?_,ai,nU (s2.trans u) s⟩⟩) λd e t=>nx hi ⟨?_,t _ _ h2,s2.trans t⟩⟩;·rw[List.range_succ,List.filterMap_append];simp[e]
  ·rw[List.range_succ,List.filterMap_append];simp[e]
 ·rintro c a⟨rfl,h2,s2⟩;exact hd a s2 h2
theorem sN{J:It}{p:Addr}{h:Hp}{g:TG}{s:TE}{b:L2.St}{C:Hp->Prop}(n:Nat)(f:Nat->V)(q:h p=none)(hn:n<=sizeLine)(w:∀i a,i<n->aT h a->J.go i a/\∀x d,J.tS i a x d->∀(R:V->Hp->Prop),(∀e,aT a e->R (f i) e)->g x b d λk l=>s k l R)(hd:∀a,aT h a->a p=some (.lst ((List.range n).map f))->J.stop n a/\C a):∃W:Nat->Nat->List V->Hp->Prop,(∃m,W 0 m [] (upd h p (.lst [])))/\∀i m c a,W i m c a->(J.stop i a/\C a)\/(J.go i a/\∀x d,J.tS i a x d->g x b d λk l=>Ad k l λok o=>if ok=true then s k o λv e=>e p=some (.lst c)/\c.length<sizeLine/\∃j,j<m/\W (i+1) j (c++[v]) (upd e p (.lst (c++[v])))else∃j,j<m/\W (i+1) j c o):=by
 refine rP (Q:=λ_ H=>C H) n (λi c a=>c=(List.range i).map f/\a p=some (.lst c)/\aT h a) ⟨rfl,ai,ab q _⟩ ?_ ?_;·rintro i c a hi⟨rfl,h2,s2⟩;obtain⟨t,u⟩:=w i a hi s2;refine⟨t,λx d y=>?_⟩;simp only[Ad,if_true];refine u x d y _ λe r=>⟨r _ _ h2,by rw[dA,List.length_range];lia,nx hi ⟨?_,ai,nU (s2.trans r) q⟩⟩;rw[List.range_succ,List.map_append];rfl
 ·rintro c a⟨rfl,h2,s2⟩;exact hd a s2 h2
noncomputable def vV(xs a:List V):Bool:=decide (xs.length=a.length)&&(List.range xs.length).all λj=>vm ((xs[j]?).getD .bj) ((a[j]?).getD .bj)
noncomputable def FU(K:PySem.W.Frag):R2:=λx y H Q=>∃p q xs a,x= .ref p/\y= .ref q/\bQ K H p xs/\bQ K H q a/\xs.all dZ=true/\a.all dZ=true/\Q (.bl (vV xs a)) H
theorem zL{X:Cx}(N:X.A.units+1<cLine):ji X (compareOp .Eq) (FU X.K):=by
 intro pins s σ H x y v u Q I J K h;obtain⟨p,q,xs,a,rfl,rfl,A,B,w,z,h⟩:=h;cases J;cases K;obtain⟨b,n,l,_⟩:=I.list A;obtain⟨f,o,m,_⟩:=I.list B;have k:=n.length;have E:=o.length;by_cases g:xs.length=a.length
 ·refine SeqAt.eq_listAt l.isList m.isList (e:=λj=>vm ((xs[j]?).getD .bj) ((a[j]?).getD .bj)) (by simp;lia) (by lia) (λj h1 h2=>?_) ⟨.bl _,H,I,rfl,?_⟩
  ·have c:j<xs.length:=by simpa[k]using h1
   have d:j<a.length:=by simpa[E]using h2
   obtain⟨L,r,C⟩:=n.get (i:=j) (x:=xs[j]) (by simp[c]);obtain⟨M,t,D⟩:=o.get (i:=j) (x:=a[j]) (by simp[d]);have F:b.toArray[j]=L:=by
    have :b[j]?=some b.toArray[j]:=by simp
    rw[r]at this;exact(Option.some.inj this).symm
   have G:f.toArray[j]=M:=by
    have :f[j]?=some f.toArray[j]:=by simp
    rw[t]at this;exact(Option.some.inj this).symm
   rw[F,G];simp only[zQ03 c,zQ03 d,Option.getD_some];exact vW C D (List.all_eq_true.mp w _ (List.getElem_mem c)) (List.all_eq_true.mp z _ (List.getElem_mem d))
  ·have e:vV xs a=(List.range b.toArray.size).all λj=>vm ((xs[j]?).getD .bj) ((a[j]?).getD .bj):=by unfold vV;rw[decide_eq_true g,Bool.true_and,bY,k]
   rw[e]at h;exact h
 ·have e:vV xs a=false:=by unfold vV;rw[decide_eq_false g,Bool.false_and]
  rw[e]at h;exact SeqAt.eq_list_lengthsAt l.isList m.isList (by simp;lia) (by lia) ⟨.bl false,H,I,rfl,h⟩
end L3
end
section
namespace HT
open PySem PyProof.Rows
section
open PySem.SeqAt
open PySem.AutoSeq1(wpAny_loadPart')
open PySem.MeetsSeq PySem.MeetsSeq2 PySem.MeetsSeq3
variable{prog:Program}{w:World}{A:Around}{E:Value->Shared->Prop}{s:Shared}
theorem eY{t sl:Addr}{items:Array Value}{b c:Value}{lo hi:Option Int}{Q:Value->Shared->Prop}(ht:IsTup s.heap t items)(a:s.heap.IsSliceOf sl b c .none)(i:IsPart b lo)(j:IsPart c hi)(h1:cO items.size 0 lo=0)(h2:cO items.size items.size hi=items.size)(h:Q (.ref t) s):wpAny (model prog w) A (getItem (.ref t) (.ref sl)) Q E s:=by
 obtain⟨os,f,e,k⟩:=id a;have d:s.TypeIs (.ref sl) "slice":=⟨os,f,e⟩;unfold getItem;try with_reducible refine d8 ?_
 first|refine zQ00 (zQ02 ?_)|skip
 refine zQ00 (wpAny_sequenceKey ht.typeIs (by decide) ?_);refine zQ00 (wpAny_callSpecial?_slot (name:=Str.ofString "__getitem__") ht.typeIs PyProof.Rows.slot_tuple_getitem (eG PyProof.Rows.slot_tuple_getitem ht.typeIs entry_tuple_getitem ?_ (args_tuple_getitem _ _)));show wpAny _ _ (Builtin.Tuple.tupleItemsOf (.ref t)>>=_) _ _ s;refine zQ00 (tupleItemsOf_ ht ?_);refine zQ00 (wpAny_typeOf d ?_);rw[if_pos (by decide)];refine zQ00 (dC a i j ?_);have g:(((cO items.size 0 lo:Nat):Int)==0&&(1:Int)==1&&(cO items.size items.size hi-cO items.size 0 lo)==items.size)=true:=by rw[h1,h2];simp
 show wpAny _ _ (if(((cO items.size 0 lo:Nat):Int)==0&&(1:Int)==1&&(cO items.size items.size hi-cO items.size 0 lo)==items.size)=true then _ else _) _ _ s;rw[if_pos g];show wpAny _ _ (Builtin.Tuple.tupleIsExact (.ref t)>>=_) _ _ s;refine zQ00 ?_;unfold Builtin.Tuple.tupleIsExact;refine zQ00 (wpAny_typeOf ht.typeIs (zQ02 ?_));rw[if_pos (by decide)];exact zQ00 (wpAny_rule (zQ02 ⟨_,rfl,zQ02 h⟩))
end
end HT
end
section
namespace L3
open PySem PySem.Spec PyProof.Rows L2
noncomputable def FX(K:PySem.W.Frag):V->Option Int->Option Int->Hp->VK->Prop:=λx lo hi H Q=>∃a xs,x= .ref a/\eN K H a xs/\(∀p,H p=none->Q (.ref p) (upd H p (.tup (jW xs lo hi))))/\(jW xs lo hi=xs->Q (.ref a) H)
theorem xQ{X:Cx}:FV X (FX X.K):=by
 intro pins s σ H x v i j lo hi sl Q I f b d e h;obtain⟨a,xs,rfl,c,q1,q2⟩:=h;by_cases hw:HT.cO xs.length 0 lo=0/\HT.cO xs.length xs.length hi=xs.length
 ·cases f;obtain⟨g,r,ht,k⟩:=I.tuple c;have hlen:g.toArray.size=xs.length:=by rw[bY];exact r.length.symm
  refine⟨"tuple",_,PyProof.Rows.slot_tuple_getitem.lookup,ht.typeIs,?_⟩;refine HT.eY ht b d e (by rw[hlen];exact hw.1) (by rw[hlen];exact hw.2) ⟨.ref a,H,I,rfl,q2 ?_⟩;unfold jW;rw[hw.1,hw.2,List.drop_zero,Nat.sub_zero,List.take_length]
 ·exact AQ pins s σ H _ v i j lo hi sl Q I f b d e ⟨a,xs,rfl,c,hw,q1⟩
theorem sG(xs:List V)(k:Nat):jW xs (some (k:Int)) none=xs.drop k:=by
 unfold jW;rw[HT.u_,HT.xg];by_cases h:k<=xs.length;·rw[Nat.min_eq_left h];exact List.take_of_length_le (by rw[List.length_drop];lia)
 ·rw[Nat.min_eq_right (by lia),List.drop_eq_nil_of_le (zQ04 _),List.drop_eq_nil_of_le (show xs.length<=k by lia)];simp
section
variable{X:Cx}{K:PySem.W.Frag}
theorem kA(a:X.K=K:=by rfl):Du X (Ew K):=by subst a;exact ck
theorem pQ(a:X.K=K:=by rfl):ji X (compareOp .In) (Ja K false):=by subst a;exact gw
end
theorem xj{b:Type}{xs:List b}{m:Int}(c:Int)(h:(xs.length:Int)=m)(a:0<m):∃v,jY xs (c%m)=some v/\v∈xs:=by
 have d:0<=c%m:=Int.emod_nonneg _ (by lia);have i1:c%m<m:=Int.emod_lt_of_pos _ a;have hi:(c%m).toNat<xs.length:=by lia
 have e:c%m=(((c%m).toNat:Nat):Int):=by lia
 have h:jY xs (((c%m).toNat:Nat):Int)=some xs[(c%m).toNat]:=aV (zQ03 hi);exact⟨xs[(c%m).toNat],(congrArg (jY xs) e).trans h,List.getElem_mem hi⟩
theorem uo{a:Type}{xs:List a}{m:Int}(c:Int)(h:(xs.length:Int)=m)(b:0<m):∃(j:Nat)(v:a),c%m=(j:Int)/\j<xs.length/\xs[j]?=some v/\jY xs (c%m)=some v:=by
 have d:0<=c%m:=Int.emod_nonneg _ (by lia);have i1:c%m<m:=Int.emod_lt_of_pos _ b;have hi:(c%m).toNat<xs.length:=by lia
 have e:c%m=(((c%m).toNat:Nat):Int):=by lia
 have h:jY xs (((c%m).toNat:Nat):Int)=some xs[(c%m).toNat]:=aV (zQ03 hi);exact⟨(c%m).toNat,xs[(c%m).toNat],e,hi,zQ03 hi,(congrArg (jY xs) e).trans h⟩
noncomputable def zU:List Nat->Nat|[]=>0|a::r=>max a (zU r)
end L3
end
section
namespace L3
open PySem PySem.Spec L2
variable{K:PySem.W.Frag}
def AV(K:PySem.W.Frag)(a:Addr)(xs:List V):Prop:=∃(o:Obj)(b:Array Value)(n:Nat),K.lookup a=some o/\o.cls= .type "tuple"/\o.data= .seq b n/\b.size<=sizeLine/\Vals xs b.toList
structure KD(K:PySem.W.Frag)(a:Addr)(rows:List (Str×List V))(as:List Addr):Prop where
 len:as.length=rows.length
 tab:jC K a ((rows.zip as).map λp=>(p.1.1,V.ref p.2))
 sq:∀p∈rows.zip as,AV K p.2 p.1.2
theorem kf{d g:Type}{x:Str}(f:(Str×d)×g->V):∀(rows:List (Str×d))(as:List g),as.length=rows.length->(∃r a,(r,a)∈rows.zip as/\r.1=x/\rows.lookup x=some r.2/\PyProof.Rows.KTD.datumAt x ((rows.zip as).map λp=>(p.1.1,f p))=some (f (r,a)))\/(rows.lookup x=none/\PyProof.Rows.KTD.datumAt x ((rows.zip as).map λp=>(p.1.1,f p))=none)
 |[],_,_=> .inr ⟨rfl,rfl⟩
 |(k,v)::rows,[],h=>by simp at h
 |(k,v)::rows,a::as,h=>by
  have i:=kf (x:=x) f rows as (by simpa using h);by_cases e:x=k;·subst e;exact .inl ⟨(x,v),a,dj,rfl,by simp[List.lookup],by simp[PyProof.Rows.KTD.datumAt]⟩
  ·have c:(x==k)=false:=by simpa using e
   have j:¬k=x:=λz=>e z.symm;rcases i with⟨r,b,h1,h2,h3,h4⟩|⟨h1,h2⟩;·exact .inl ⟨r,b,d9 _ h1,h2,by rw[ik,c];exact h3,by simp only[List.zip_cons_cons,eX,PyProof.Rows.KTD.datumAt,e,decide_false,eW,if_false];exact h4⟩
   ·exact .inr ⟨by rw[ik,c];exact h1,by simp only[List.zip_cons_cons,eX,PyProof.Rows.KTD.datumAt,e,decide_false,eW,if_false];exact h2⟩
theorem KD.some{a:Addr}{rows:List (Str×List V)}{as:List Addr}(T:KD K a rows as){x:Str}{ds:List V}(h:rows.lookup x=Option.some ds):∃b,PyProof.Rows.KTD.datumAt x ((rows.zip as).map λp=>(p.1.1,V.ref p.2))=Option.some (.ref b)/\∀H,eN K H b ds:=by
 rcases kf (x:=x) (λp=>V.ref p.2) rows as T.len with⟨r,b,h1,h2,h3,h4⟩|⟨h1,_⟩;·rw[h]at h3;cases h3;exact⟨b,h4,λH=> .inr (T.sq _ h1)⟩
 ·rw[h]at h1;cases h1
noncomputable def az:List V->List Value->Bool|[],[]=>true| .str x::vs, .str y _::us=>decide (x=y)&&az vs us| .int i::vs, .int j _::us=>decide (i=j)&&az vs us|_,_=>false
theorem fe:∀{vs:List V}{us:List Value},az vs us=true->Vals vs us|[],[],_=> .nil| .str x::vs, .str y t::us,h=>by simp only[az,cu,decide_eq_true_eq]at h;obtain⟨rfl,h⟩:=h;exact .cons ⟨t,rfl⟩ (fe h)| .int x::vs, .int y t::us,h=>by simp only[az,cu,decide_eq_true_eq]at h;obtain⟨rfl,h⟩:=h;exact .cons ⟨t,rfl⟩ (fe h)|[],_::_,h=>by simp[az]at h|_::_,[],h=>by simp[az]at h| .bj::_,_::_,h=>by simp[az]at h| .bl _::_,_::_,h=>by simp[az]at h| .tP _::_,_::_,h=>by simp[az]at h| .AI _::_,_::_,h=>by simp[az]at h| .ref _::_,_::_,h=>by simp[az]at h| .ty _::_,_::_,h=>by simp[az]at h| .str _::_, .none::_,h=>by simp[az]at h| .str _::_, .int _ _::_,h=>by simp[az]at h| .str _::_, .ref _::_,h=>by simp[az]at h| .str _::_, .bool _::_,h=>by simp[az]at h| .str _::_, .float _ _::_,h=>by simp[az]at h| .str _::_, .bytes _ _::_,h=>by simp[az]at h| .str _::_, .type _::_,h=>by simp[az]at h| .str _::_, .builtin _::_,h=>by simp[az]at h| .str _::_, .ellipsis::_,h=>by simp[az]at h| .str _::_, .notImplemented::_,h=>by simp[az]at h| .int _::_, .none::_,h=>by simp[az]at h| .int _::_, .str _ _::_,h=>by simp[az]at h| .int _::_, .ref _::_,h=>by simp[az]at h| .int _::_, .bool _::_,h=>by simp[az]at h| .int _::_, .float _ _::_,h=>by simp[az]at h| .int _::_, .bytes _ _::_,h=>by simp[az]at h| .int _::_, .type _::_,h=>by simp[az]at h| .int _::_, .builtin _::_,h=>by simp[az]at h| .int _::_, .ellipsis::_,h=>by simp[az]at h| .int _::_, .notImplemented::_,h=>by simp[az]at h
noncomputable def bC(vs:List V)(a:Array Value):Bool:=az vs a.toList&&decide (a.size<=100)
theorem bK{K:PySem.W.Frag}{a:Addr}{d:Option Addr}{b:Array Value}{n:Nat}{sl:Array (Option Value)}{vs:List V}(h:K.lookup a=some ⟨.type "tuple",d, .seq b n,sl⟩)(c:bC vs b=true):AV K a vs:=by simp only[bC,cu,decide_eq_true_eq]at c;exact⟨_,b,n,h,rfl,rfl,bM c.2 (by decide),fe c.1⟩
noncomputable def dP:List DictEntry->List Str->Bool|[],[]=>true|e::es,k::ks=>(match e.key,e.val with| .str x _, .ref _=>decide (x=k)|_,_=>false)&&dP es ks|_,_=>false
noncomputable def refsOf(es:List DictEntry):List Addr:=es.map λe=>match e.val with| .ref a=>a|_=>0
theorem qw:∀{es:List DictEntry}{ks:List Str},dP es ks=true->PyProof.Rows.KTD.Rows RelV es ((ks.zip (refsOf es)).map λp=>(p.1,V.ref p.2))
 |[],[],_=> .nil
 |[],_::_,h=>by simp[dP]at h
 |_::_,[],h=>by simp[dP]at h
 |e::es,k::ks,h=>by
  obtain⟨c,a,val⟩:=e;rw[dP,cu]at h;cases a with
   |str x t=>
    cases val with
     |ref b=>
      have h1:x=k:=by simpa using h.1
      subst h1;exact .cons rfl rfl (qw h.2)
     |_=>simp at h
   |_=>simp at h
theorem B2{a:Addr}{es:Array DictEntry}{ep:Nat}{rows:List (Str×List V)}{as:List Addr}(d:(a==sysModules)=false)(b:K.lookup a=some ⟨.type "dict",none, .dict es ep,#[]⟩)(ks:dP es.toList (rows.map (·.1))=true)(c:refsOf es.toList=as)(hl:as.length=rows.length)(sq:∀p∈rows.zip as,AV K p.2 p.1.2):KD K a rows as:=by refine⟨hl,⟨d,_,es,ep,b,⟨rfl,rfl,rfl⟩,rfl,?_⟩,sq⟩;have h:=qw ks;rw[c,List.zip_map_left,List.map_map]at h;exact h
theorem bg{r:Str×List V}{b:Addr}{rows:List (Str×List V)}{as:List Addr}(h:AV K b r.2)(t:∀p∈rows.zip as,AV K p.2 p.1.2):∀p∈(r::rows).zip (b::as),AV K p.2 p.1.2:=λp a=>by
 rcases List.mem_cons.mp a with rfl|a;·exact h
 ·exact t p a
theorem AX:∀p∈([]:List (Str×List V)).zip ([]:List Addr),AV K p.2 p.1.2:=λp a=>by simp at a
noncomputable def dU:List DictEntry->List (Str×Int)->Bool|[],[]=>true|e::es,(k,i)::ks=>(match e.key,e.val with| .str x _, .int j _=>decide (x=k)&&decide (j=i)|_,_=>false)&&dU es ks|_,_=>false
theorem ja:∀{es:List DictEntry}{ks:List (Str×Int)},dU es ks=true->PyProof.Rows.KTD.Rows RelV es (ks.map λp=>(p.1,V.int p.2))
 |[],[],_=> .nil
 |[],_::_,h=>by simp[dU]at h
 |_::_,[],h=>by simp[dU]at h
 |e::es,(k,i)::ks,h=>by
  obtain⟨c,a,val⟩:=e;rw[dU,cu]at h;cases a with
   |str x t=>
    cases val with
     |int b u=>
      have h1:x=k/\b=i:=by simpa using h.1
      obtain⟨rfl,rfl⟩:=h1;exact .cons rfl ⟨u,rfl⟩ (ja h.2)
     |_=>simp at h
   |_=>simp at h
theorem xW{a:Addr}{es:Array DictEntry}{ep:Nat}{rows:List (Str×Int)}(c:(a==sysModules)=false)(b:K.lookup a=some ⟨.type "dict",none, .dict es ep,#[]⟩)(ks:dU es.toList rows=true):jC K a (rows.map λp=>(p.1,V.int p.2)):=⟨c,_,es,ep,b,⟨rfl,rfl,rfl⟩,rfl,ja ks⟩
end L3
end
section
namespace L3
open PySem PySem.Spec PyProof.Rows L2
structure MadeX(h h':Heap)(e C:Addr)(hh:Option Value):Prop where
 keeps:∀b o,h.get? b=some o->h'.get? b=some o
 new:h.get? e=none
 there:∃oe vs t c,h'.get? e=some oe/\oe.cls= .ref C/\oe.data= .fields vs/\vs[0]?=some (.ref t)/\vs[1]?=some .none/\vs[2]?=some c/\(hh=none->c= .none)
section
variable{prog:Program}{w:World}{A:Around}{E:Value->Shared->Prop}{s:Shared}
end
def Ex(h:Heap)(a C:Addr)(T c:Value):Prop:=∃oe vs a0,h.get? a=some oe/\oe.cls= .ref C/\oe.data= .fields vs/\vs[0]?=some a0/\vs[1]?=some T/\vs[2]?=some c
def Tb(h:Heap)(T:Addr)(fl:Value):Prop:=∃a b,h.get? T=some a/\a.data= .fields b/\b[3]?=some fl
structure Ma(fs:List Addr)(xs:List Addr)(h h':Heap):Prop where
 keep:∀b o,h.get? b=some o->b∉fs->b∉xs->h'.get? b=some o
 slot:∀b o,h.get? b=some o->b∈fs->b∉xs->∃sl,h'.get? b=some {o with slots:=sl}
section
variable{M:Model}{A:Around}{E:Value->Shared->Prop}{s:Shared}
end
structure Iw(X:Cx)(pins:List (Addr×Obj))(H:Hp)(b:Addr):Prop where
 un:H b=none
 new:X.cc.heap.get? b=none
 loc:b≠X.env.locals
 Mk:∀x c,X.env.cells.lookup x=some c->c≠b
 pin:∀p∈X.pn++pins,p.1≠b
section
variable{X:Cx}{pins:List (Addr×Obj)}{σ:L2.St}{H H':Hp}{s s':Shared}{h':Heap}{a:Addr}
end
structure Je(X:Cx)(pins:List (Addr×Obj))(H:Hp)(s:Shared)(a C T:Addr)(c fl:Value):Prop where
 ex:Ex s.heap a C (.ref T) c
 tb:Tb s.heap T fl
 ne:T≠a
 fa:Iw X pins H a
 fT:Iw X pins H T
section
variable{X:Cx}{pins:List (Addr×Obj)}{σ:L2.St}{H:Hp}{s s':Shared}{E:XK}{e:Value}{hh:Option Value}
end
section
variable{P:Program}{w:World}{K:PySem.W.Frag}{mg:Str->Option Value}{base:Heap}{N:List Str}{qual:Str}{sc:Scope}{f:Addr}{cd:Value}{A:Around}{outer:List Env}{cc:Shared}{H₀:Hp}{E:XK}
end
section
variable{X:Cx}{pins:List (Addr×Obj)}{σ:L2.St}{H:Hp}{s:Shared}{a:Addr}{oe:Obj}{cm:Bool}
end
noncomputable abbrev TH:=Addr->Addr->TS
def PH(X:Cx)(b:List ExceptHandler)(t:TH):Prop:=∀(pins:List (Addr×Obj))(s:Shared)(σ:L2.St)(H:Hp)(D:Ends)(a C T:Addr)(c:Value),Inv X pins σ H s->Je X pins H s a C T c .none->(X.A.handled=none->c= .none)->t C a D σ H->wpAny (model X.prog X.w) X.A (handleBy (.ref a) X.env b) (SP X pins D) X.xe s
section
variable{X:Cx}{cm:Bool}
noncomputable def D1(i:Nat)(D:Ends):Ends:={nx:=λσ H=>D.nx (σ.set i none) H,rt:=D.rt,bk:=λσ H=>D.bk (σ.set i none) H,ct:=λσ H=>D.ct (σ.set i none) H}
end
noncomputable abbrev TB:=Ends->(Addr->L2.St->Hp->Prop)->L2.St->Hp->Prop
def BX(X:Cx)(pins:List (Addr×Obj))(G:Addr->L2.St->Hp->Prop)(e:Value)(s':Shared):Prop:=∃(a C T:Addr)(c:Value)(b:L2.St)(H':Hp),e= .ref a/\Inv X pins b H' s'/\Je X pins H' s' a C T c .none/\(X.A.handled=none->c= .none)/\G C b H'
def PB(X:Cx)(body:List Stmt)(t:TB):Prop:=∀(pins:List (Addr×Obj))(s:Shared)(σ:L2.St)(H:Hp)(D:Ends)(G:Addr->L2.St->Hp->Prop),Inv X pins σ H s->t D G σ H->wpAny (model X.prog X.w) X.A (execs body X.env) (SP X pins D) (BX X pins G) s
structure LN(K:PySem.W.Frag)(C:Addr):Prop where
 ga:PySem.W.findIn K (.ref C) "__getattribute__"=some (some (.builtin "BaseException.__getattribute__"))
 cl:PySem.W.findIn K (.ref C) "__class__"=some (some (.builtin "object.__class__"))
 gt:PySem.W.findIn K (.ref C) "__getattr__"=some none
 ob:PySem.W.mroIn K C (.type "object")=some true
 be:PySem.W.mroIn K C (.type "BaseException")=some true
 is:(PySem.W.clsIn K C).isSome=true
section
variable{prog:Program}{w:World}{A:Around}{E:Value->Shared->Prop}{h:Heap}{g:Array GenState}{d:Drawn}{t:Nat}{os:OsState}{a C:Addr}{o:Obj}{K:PySem.W.Frag}
end
section
variable{X:Cx}{pins:List (Addr×Obj)}{σ:L2.St}{H:Hp}{s:Shared}{a:Addr}{D:List (Str×V)}{k:Str}{tk:Tok}{A:Around}{E:Value->Shared->Prop}
theorem uA{Q:Value->Shared->Prop}(T:jC X.K a D)(I:Inv X pins σ H s)(h:∀b,RelV ((KTD.datumAt k D).getD .bj) b->Q b {s with toks:=s.toks+1}):wpAny (model X.prog X.w) A (call (.builtin "dict.get") [.ref a, .str k tk]) Q E s:=by
 have ty:=T.typeIs I;refine eG PySem.F.slot_dict_get ty PySem.F.entry_dict_get ?_ (PySem.F.args_dict_get_2 _ _);show wpAny (model X.prog X.w) _ (dictGet a (.str k tk)>>=_) _ _ s;refine zQ00 (qC T I (λv u e r=>?_) λhn=>?_);·have h:=h u (by rw[e];exact r);exact zQ02 ⟨u,rfl,h⟩
 ·have h:=h .none (by rw[hn];exact rfl);refine zQ00 ?_;unfold Builtin.Dict.missed;rw[T.sys];simp only[eW,if_false];exact zQ02 (zQ02 ⟨_,rfl,h⟩)
end
noncomputable def Ap(K:PySem.W.Frag)(d ty:TE):TE:=λσ H Q=>d σ H λx b=>∃a D,x= .ref a/\jC K a D/\ty σ b λy c=>∃k,y= .str k/\Q ((KTD.datumAt k D).getD .bj) c
theorem uZ{X:Cx}{o e:Expr}{apos cY:Pos}{f ty:TE}(ho:PE X o f)(he:PE X e ty)(m:M1 X o "get" apos e cY):PE X (.Call (.Attribute o "get" apos) [e] [] cY) (Ap X.K f ty):=by
 intro pins s σ H Q I h;refine wpAny_Call_method m.base m.Gh m.line PySem.F.plainAttrs_dict PySem.F.slot_dict_get PySem.F.type_dict_get (bp (ho pins s σ H _ I h) λu s1 v=>?_);obtain⟨x,g,c,l,a,D,ex,T,q1⟩:=v;subst ex;obtain rfl:u=Value.ref a:=l;have p:=T.typeIs c;refine⟨p,λb q=>?_,?_⟩;·cases q;obtain⟨o,_,_,e,x,_⟩:=T.ex;exact⟨o,c.j_ a o e,x.2.1⟩
 rw[m.trees];refine Calls.callWith_builtin rfl (Calls.evalArgs_plain (Calls.spliced_cons (bp (he pins s1 σ g _ c q1) λw s2⟨y,i,d,n,k,j,q2⟩=>Calls.spliced_nil ?_)));subst j;obtain⟨t,rfl⟩:=n;exact uA T d λz r=>⟨_,i,d.tok _,r,q2⟩
structure Lv(a e it:Addr)(i:Nat)(h:Heap):Prop where
 e:∃old,IsEnum h e it i old
 it:h.IsListIter it a i
theorem tU{CX:nc}{P:Program}{w:World}{K:PySem.W.Frag}{mg:Str->Option Value}{base:Heap}{N:List Str}{qual:Str}{scope:Scope}{f:Addr}{cd:Value}{A:Around}{outer:List Env}{s:Shared}{H:Hp}{E:XK}:(mR CX P w K mg base N qual scope f cd A outer s H E).Bt.K=K:=rfl
end L3
end
section
namespace L3
open PySem L2
theorem ug{a b:TS}{D:Ends}{σ:L2.St}{H:Hp}(h:let c:Ends:=D;let d:TS:=b;bZ a d c σ H):(bZ a (b)) D σ H:=h
theorem EA{a b c:TS}{D:Ends}{σ:L2.St}{H:Hp}(h:let d:Ends:=D;let f:TS:=c;let e:TS:=bZ b f;bZ a e d σ H):(bZ a (bZ b (c))) D σ H:=h
theorem F8{a b c t4:TS}{D:Ends}{σ:L2.St}{H:Hp}(h:let d:Ends:=D;let g:TS:=t4;let f:TS:=bZ c g;let e:TS:=bZ b f;bZ a e d σ H):(bZ a (bZ b (bZ c (t4)))) D σ H:=h
theorem FG{a b c t4 d:TS}{D:Ends}{σ:L2.St}{H:Hp}(h:let e:Ends:=D;let j:TS:=d;let i:TS:=bZ t4 j;let g:TS:=bZ c i;let f:TS:=bZ b g;bZ a f e σ H):(bZ a (bZ b (bZ c (bZ t4 (d))))) D σ H:=h
theorem G_{a b c t4 d e:TS}{D:Ends}{σ:L2.St}{H:Hp}(h:let f:Ends:=D;let l:TS:=e;let k:TS:=bZ d l;let j:TS:=bZ t4 k;let i:TS:=bZ c j;let g:TS:=bZ b i;bZ a g f σ H):(bZ a (bZ b (bZ c (bZ t4 (bZ d (e)))))) D σ H:=h
end L3
end
section
namespace KM
end KM
end
section
namespace L3
open PySem L2
theorem Kf{P:List Value->Prop}(h:P []):∀us:List Value,us.length=0->P us:=λus e=>by rw[List.length_eq_zero_iff.mp e];exact h
theorem Gf{P:List Value->Prop}{n:Nat}(h:∀a us,us.length=n->P (a::us)):∀us:List Value,us.length=n+1->P us|[],e=>nomatch e|a::us,e=>h a us (Nat.succ.inj e)
theorem jS{P:List Value->Prop}(h:∀a,P [a]):∀us:List Value,us.length=1->P us:=Gf λa=>Kf (h a)
theorem w_{P:List Value->Prop}(h:∀a b,P [a,b]):∀us:List Value,us.length=2->P us:=Gf λa=>jS (h a)
theorem LU{P:List Value->Prop}(h:∀a b c,P [a,b,c]):∀us:List Value,us.length=3->P us:=Gf λa=>w_ (h a)
def dF(K:PySem.W.Frag)(x:Str)(st:Stmt):Prop:=∃(f:Addr)(od an:Option Addr)(sl:Array (Option Value))(oc kV dc pm cd ct:Value),PySem.W.nsIn K mainGlobals x=some (some (.ref f))/\K.lookup f=some ⟨oc,od, .func (PySem.W.fnOf x x (cR st) (cq st) (ao st) .none kV dc pm an cd ct),sl⟩/\PySem.W.codeIn K cd x=true/\PySem.W.keepIn K (.ref f)=true
theorem dfi{K:PySem.W.Frag}{x:Str}{st:Stmt}{f:Addr}{od an:Option Addr}{sl:Array (Option Value)}{oc kV dc pm cd ct:Value}(a:PySem.W.nsIn K mainGlobals x=some (some (.ref f)))(l:K.lookup f=some ⟨oc,od, .func (PySem.W.fnOf x x (cR st) (cq st) (ao st) .none kV dc pm an cd ct),sl⟩)(c:PySem.W.codeIn K cd x=true)(k:PySem.W.keepIn K (.ref f)=true):dF K x st:=⟨f,od,an,sl,oc,kV,dc,pm,cd,ct,a,l,c,k⟩
theorem dF.df{K:PySem.W.Frag}{h:Heap}{mg:Str->Option Value}{x:Str}{st:Stmt}{ps:List Str}(D:dF K x st)(X:K.In h)(G:h.Ns mainGlobals mg)(b:∀(kV doc pm:Value)(an:Option Addr)(cZ ct:Value)(us:List Value),us.length=ps.length->bindArgs (PySem.W.fnOf x x (cR st) (cq st) (ao st) .none kV doc pm an cZ ct) ⟨us,[]⟩=pure (ps.zip us)):Df K mg x st ps:=by obtain⟨f,od,an,sl,oc,kV,dc,pm,cd,ct,a,l,c,k⟩:=D;exact⟨f,_,vn l c k,PySem.W.mg_of X G a,(vn l c k).binds b⟩
end L3
end
theorem L2.c_.m{j k:Nat}{A:PySem.Around}(r:L2.c_ k A)(h:j<=k:=by first|decide|lia):L2.c_ j A:=r.mono h
section
namespace K12
open PySem L2 L3 KM
noncomputable def top(i:Nat):Stmt:=PySem.Challenge.pw_keeper_k12_free_variables.main.body.getD i (.Pass ⟨0,0,0,0⟩)
noncomputable abbrev eV:Stmt:=top 3
noncomputable abbrev c7:Stmt:=top 4
noncomputable abbrev bO:Stmt:=top 6
noncomputable abbrev eS:Stmt:=top 7
noncomputable abbrev bR:Stmt:=top 9
noncomputable abbrev cV:Stmt:=top 10
noncomputable abbrev cI:Stmt:=top 11
noncomputable abbrev cK:Stmt:=top 12
noncomputable abbrev cW:Stmt:=top 13
noncomputable abbrev cF:Stmt:=top 14
noncomputable abbrev c8:Stmt:=top 15
noncomputable abbrev du:Stmt:=top 16
noncomputable abbrev b_:Stmt:=top 17
noncomputable abbrev cX:Stmt:=top 18
noncomputable abbrev dM:Stmt:=top 19
noncomputable abbrev dW:Stmt:=top 20
noncomputable abbrev nH:Stmt:=top 21
structure vE where
 none_:Unit:=()
 jA:Addr
 eA:Addr
structure Mg(mg:Str->Option Value)(t:vE):Prop where
 vT:mg "bool"=none
 x8:mg "int"=none
 cn:mg "isinstance"=none
 e_:mg "len"=none
 uO:mg "list"=none
 dN:mg "range"=none
 Cj:mg "set"=none
 v7:mg "sorted"=none
 gb:mg "tuple"=none
 Dx:mg "zip"=none
 g_KIDS_DUE:mg "KIDS_DUE"=some (.ref t.jA)
 g_BINDER_OVER:mg "BINDER_OVER"=some (.ref t.eA)
seal L2.PE L2.PS L2.jL L2.PT L2.PW L2.PA L2.PG L2.vG L2.PI L2.PC L2.PO L2.uY L2.PK L3.uv
variable{P:Program}{w:World}{K:PySem.W.Frag}{mg:Str->Option Value}{base:Heap}{f:Addr}{fd:FuncData}
noncomputable def jq(ns:List Int)(k:Nat):Int:=(ns[k]?).getD 0
def p7(K:PySem.W.Frag):Sp:=λvs H Q _=>∃(a:Addr)(ns:List Int)(k:Nat),vs=[.ref a, .int k]/\bQ K H a (ns.map V.int)/\Q (.int (jq ns k)) H
theorem zh:aU ["_law_script","_law_k"] ["_law_script","_law_k"] (ao bR):=⟨rfl,rfl,rfl,by decide+kernel,rfl,by decide+kernel,by decide+kernel⟩
theorem xb(F:tV K "_law_cell_at" "_law_cell_at" bR f fd)(g:mg "len"=none):f6 P w K mg base bX 1 f fd ["_law_script","_law_k"] (p7 K):=by
 refine F.ok zh (λvs H Q E h=>?_) (λcZ A outer s H vs Q E hr h=>?_);·obtain⟨a,ns,k,rfl,_⟩:=h;rfl
 obtain⟨a,ns,k,rfl,hS,q⟩:=h;refine⟨_,aj (bG (aD vd (pv 1) (bf ba rfl g PySem.boot_len (aa (pv 0) ag)) (aO _)) (ak (aJ (bu bW (pv 0) (pv 1) (λ_ _=>rfl)))) aZ) (ak (aJ ae)),?_⟩;refine⟨_,rfl,_,rfl,a,_,rfl, .inl hS,_,_,rfl,rfl,_,rfl,?_⟩;have hl:(ns.map V.int).length=ns.length:=dA _;refine cN (λc=>?_) (λc=>?_)
 ·have d:(k:Int)<(((ns.map V.int).length:Nat):Int):=of_decide_eq_true c;have b:k<ns.length:=by rw[hl]at d;omega
  have e:jq ns k=ns[k]:=by unfold jq;simp[b]
  rw[e]at q;exact⟨_,rfl,_,rfl,a,_,_,_,rfl,rfl,hS,aV (by rw[ic,zQ03 b]<;>rfl),q⟩
 ·have d:¬(k:Int)<(((ns.map V.int).length:Nat):Int):=of_decide_eq_false (Bool.eq_false_iff.mpr c);have b:ns.length<=k:=by rw[hl]at d;omega
  have e:jq ns k=0:=by unfold jq;rw[List.getElem?_eq_none b];rfl
  rw[e]at q;exact q
def lJ:Sp:=λvs H Q _=>∃(p:Addr)(a b:Int),vs=[.ref p]/\H p=some (.lst [.int a, .int b])/\0<=a/\a<2147483647/\∀c n:Int,0<=c->c<2147483647->0<=n->Q (.int n) (upd H p (.lst [.int c, .int (b-1)]))
theorem zT:aU ["_law_state_here"] ["_law_state_here"] (ao cV):=⟨rfl,rfl,rfl,by decide+kernel,rfl,by decide+kernel,by decide+kernel⟩
theorem xo(F:tV K "_law_next" "_law_next" cV f fd):f6 P w K mg base bX 1 f fd ["_law_state_here"] lJ:=by
 refine F.ok zT (λvs H Q E h=>?_) (λcZ A outer s H vs Q E hr h=>?_);·obtain⟨p,a,b,rfl,_⟩:=h;rfl
 obtain⟨p,a,b,rfl,d,g,h1,q⟩:=h;refine⟨_,aj (vH (ar bo (ar vU (bu bW (pv 0) ae (λ_ _=>rfl)) ae) ae) (ue (pv 0) ae set_list)) (aj (vH (ar iU (bu bW (pv 0) ae (λ_ _=>rfl)) ae) (ue (pv 0) ae set_list)) (ak (aJ (ar bH (bu bW (pv 0) ae (λ_ _=>rfl)) ae)))),?_⟩;refine⟨_,rfl,p,_,_,_,rfl,rfl,bQ.of d,rfl,_,_,rfl,rfl, .inl ⟨by omega,by omega⟩,_,_,rfl,rfl,(by show(0:Int)<2147483647;decide),_,rfl,p,_,_,0,rfl,rfl,d,rfl,?_⟩;have c:(upd H p (.lst ([V.int a, .int b].set 0 (V.int (a*48271%2147483647))))) p=some (.lst [.int (a*48271%2147483647), .int b]):=ai;refine⟨_,rfl,p,_,_,_,rfl,rfl,bQ.of c,rfl,_,_,rfl,rfl,_,rfl,p,_,_,1,rfl,rfl,c,rfl,?_⟩;rw[iA];have e:(upd H p (.lst ([V.int (a*48271%2147483647), .int b].set 1 (V.int (b-1))))) p=some (.lst [.int (a*48271%2147483647), .int (b-1)]):=ai;refine⟨_,rfl,p,_,_,_,rfl,rfl,bQ.of e,rfl,_,_,rfl,rfl,⟨by decide,by decide⟩,?_⟩;exact q _ _ (Int.emod_nonneg _ (by decide)) (Int.emod_lt_of_pos _ (by decide)) (Int.ediv_nonneg (Int.emod_nonneg _ (by decide)) (by decide))
def lY:Sp:=λvs H Q _=>∃(c m:Int),vs=[.int c, .int m]/\0<=m/\∀(p:Addr)(a b:Int),H p=none->0<=a->a<2147483647->b<=m->Q (.ref p) (upd H p (.lst [.int a, .int b]))
theorem xp:aU ["_law_cell","_law_most"] ["_law_cell","_law_most"] (ao cI):=⟨rfl,rfl,rfl,by decide+kernel,rfl,by decide+kernel,by decide+kernel⟩
theorem uV(F:tV K "_law_state" "_law_state" cI f fd):f6 P w K mg base bX 1 f fd ["_law_cell","_law_most"] lY:=by
 refine F.ok xp (λvs H Q E h=>?_) (λcZ A outer s H vs Q E hr h=>?_);·obtain⟨c,m,rfl,_⟩:=h;rfl
 obtain⟨c,m,rfl,hm,q⟩:=h;refine⟨_,ak (aJ (bh (aa (ar cB ae (ar bo (pv 0) ae)) (aa (ar bo (ar bH (pv 0) ae) (ar cB (pv 1) ae)) ag)))),?_⟩;refine⟨_,rfl,_,_,rfl,rfl,(by show(0:Int)<2147483646;decide),_,_,rfl,rfl,_,rfl,_,_,rfl,rfl,⟨by decide,by decide⟩,_,rfl,_,_,rfl,rfl,_,_,rfl,rfl,(by show(0:Int)<m+1;omega),(dh rfl),λp a=>?_⟩;have h1:=Int.emod_nonneg c (show(2147483646:Int)≠0 by decide);have h2:=Int.emod_lt_of_pos c (show(0:Int)<2147483646 by decide);have h3:=Int.emod_lt_of_pos (c/3) (show(0:Int)<m+1 by omega);exact q p _ _ a (by omega) (by omega) (by omega)
variable{P:Program}{w:World}{K:PySem.W.Frag}{mg:Str->Option Value}{base:Heap}{f:Addr}{fd:FuncData}
noncomputable def jU:List (Key×V):=[(.inr "nat", .str ""),(.inr "none", .str ""),(.inr "zero", .str ""),(.inr "all", .str "kk"),(.inr "some", .str "kk"),(.inr "same", .str "ktt"),(.inr "fun", .str "kt"),(.inr "app", .str "tt")]
noncomputable def jQ:List (Key×V):=[(.inr "next", .str "t"),(.inr "rec", .str "kttt"),(.inr "like", .str "kt"),(.inr "carry", .str "ktt"),(.inr "never", .str "kt"),(.inr "pair", .str "ktt"),(.inr "first", .str "t")]
noncomputable def sj:List (Key×V):=[(.inr "second", .str "t"),(.inr "var", .str "n"),(.inr "name", .str "w")]
noncomputable def aW(x:Str):V:=match dB jU (Sum.inr x:Key)with|some v=>v|none=>match dB jQ (Sum.inr x:Key)with|some v=>v|none=>(dB sj (Sum.inr x:Key)).getD .bj
def fI:Sp:=λvs H Q _=>∃x:Str,vs=[.str x]/\∀H',aT H H'->Q (aW x) H'
theorem kS:aU ["_law_word","_law_shapes","_law_more"] ["_law_word"] (ao cK):=⟨rfl,rfl,rfl,by decide+kernel,rfl,by decide+kernel,by decide+kernel⟩
theorem KN:eB [] jU=jU:=by decide+kernel
theorem Lu:eB [] jQ=jQ:=by decide+kernel
theorem KG:eB [] sj=sj:=by decide+kernel
theorem t7(F:tV K "_law_shape" "_law_shape" cK f fd):f6 P w K mg base bX 1 f fd ["_law_word"] fI:=by
 refine F.ok kS (λvs H Q E h=>?_) (λcZ A outer s H vs Q E hr h=>?_);·obtain⟨x,rfl,_⟩:=h;rfl
 obtain⟨x,rfl,q⟩:=h;have c:=vF hr;refine⟨_,aj (aA (i:=1) kS.nd rfl (Or.inl rfl) (k_ (aQ ah ah (aQ ah ah (aQ ah ah (aQ ah ah (aQ ah ah (aQ ah ah (aQ ah ah (aQ ah ah mn)))))))) rfl rfl (by simp) (by decide))) (aj (aA (i:=2) kS.nd rfl (Or.inl rfl) (k_ (aQ ah ah (aQ ah ah (aQ ah ah (aQ ah ah (aQ ah ah (aQ ah ah (aQ ah ah mn))))))) rfl rfl (by simp) (by decide))) (aj (bG (vf (uQ c (pv 0) (pv 1))) (ak (aJ (rW c (pv 1) (pv 0) (λ_ _=>rfl)))) aZ) (aj (bG (vf (uQ c (pv 0) (pv 2))) (ak (aJ (rW c (pv 2) (pv 0) (λ_ _=>rfl)))) aZ) (ak (aJ (vP c (k_ (aQ ah ah (aQ ah ah (aQ ah ah mn))) rfl rfl (by simp) (by decide)) (pv 0) AL ⟨rfl,rfl,rfl,rfl⟩)))))),?_⟩;intro a h1;refine⟨ai,jU,rfl,by decide,?_⟩;rw[KN,iA];intro b h2;refine⟨ai,jQ,rfl,by decide,?_⟩;rw[Lu,iA];have m:a≠b:=aB ai h2;have l:(upd (upd H a (.dK jU)) b (.dK jQ)) b=some (.dK jQ):=ai;have j:(upd (upd H a (.dK jU)) b (.dK jQ)) a=some (.dK jU):=by rw[aG m];exact ai
 have s2:aT H (upd (upd H a (.dK jU)) b (.dK jQ)):=(ab h1 _).trans (ab h2 _);refine⟨_,rfl,_,rfl,a,_,rfl,fV.k (k:=Sum.inr x) j,_,rfl,?_⟩;cases d:dB jU (Sum.inr x:Key)with
  |some v=>
   refine jj ⟨_,rfl,_,rfl,a,v,rfl,d▸fV.k (k:=Sum.inr x) j,?_⟩;have e:aW x=v:=by unfold aW;rw[d]
   rw[<-e];exact q _ s2
  |none=>
   refine dy ⟨_,rfl,_,rfl,b,_,rfl,fV.k (k:=Sum.inr x) l,_,rfl,?_⟩;cases g:dB jQ (Sum.inr x:Key)with
    |some v=>
     refine jj ⟨_,rfl,_,rfl,b,v,rfl,g▸fV.k (k:=Sum.inr x) l,?_⟩;have e:aW x=v:=by unfold aW;rw[d,g]
     rw[<-e];exact q _ s2
    |none=>
     refine dy ?_;intro n h3;refine⟨ai,sj,rfl,by decide,?_⟩;rw[KG,iA];refine⟨n,rfl, .inl ⟨_, .inl ai⟩,_,rfl,_,fV.k (k:=Sum.inr x) ai,?_⟩;have e:aW x=(dB sj (Sum.inr x:Key)).getD .bj:=by unfold aW;rw[d,g]
     rw[<-e];exact q _ (s2.trans (ab h3 _))
def lZ:Sp:=λvs H Q _=>∃n:Int,vs=[.int n]/\0<=n/\∀y:Str,y.length<=100->Q (.str y) H
theorem pW:aU ["_law_number","_law_some","_law_word"] ["_law_number"] (ao cW):=⟨rfl,rfl,rfl,by decide+kernel,rfl,by decide+kernel,by decide+kernel⟩
theorem wK(F:tV K "_law_name" "_law_name" cW f fd):f6 P w K mg base bX 1 f fd ["_law_number"] lZ:=by
 refine F.ok pW (λvs H Q E h=>?_) (λcZ A outer s H vs Q E hr h=>?_);·obtain⟨n,rfl,_⟩:=h;rfl
 obtain⟨n,rfl,hn,q⟩:=h;refine⟨_,aj (aA (i:=1) pW.nd rfl (Or.inl rfl) ah) (aj (aA (i:=2) pW.nd rfl (Or.inl rfl) (iN (pv 1) (dI (ar bo (pv 0) ae)) (dI (ar cB (ar cB (ar bo (pv 0) ae) ae) (ar bo (ar bH (pv 0) ae) ae))) cD)) (aj (bG (aD bN (ar bo (ar bH (pv 0) ae) ae) ae (aO _)) (ak (aJ (iN (ar fi (iN (pv 2) cD (dI ae) cD) (iN (pv 2) cD cD (dI (Dt zA ae)))) cD (dI ae) cD))) aZ) (aj (bG (aD bN (ar bo (ar bH (pv 0) ae) ae) ae (aO _)) (ak (aJ (iN (ar fi (ar fi ah (pv 2)) (pv 2)) cD (dI ae) cD))) aZ) (ak (aJ (pv 2)))))),?_⟩;refine⟨_,rfl,_,rfl,_,_,rfl,rfl,(by show(0:Int)<26;decide),_,rfl,_,rfl,_,_,rfl,rfl,(by show(0:Int)<26;decide),_,_,rfl,rfl,_,rfl,_,_,rfl,rfl,⟨by decide,by decide⟩,_,_,rfl,rfl,(by show(0:Int)<12;decide),_,_,rfl,rfl,_,rfl,_,rfl,(by decide),(by simp),λy e=>?_⟩;have e:y.length<=38:=e;have big:∀{m:Nat},m<=100->m<=sizeLine:=λh=>bM h (by decide);have c:∀a b:Str,(a++b).length=a.length+b.length:=λa b=>Array.size_append;refine⟨_,rfl,_,_,rfl,rfl,⟨by decide,by decide⟩,_,_,rfl,rfl,(by show(0:Int)<3;decide),rfl,_,rfl,?_⟩;refine cN (λ_=>?_) (λ_=>?_);·refine⟨_,rfl,_,rfl,y,rfl,big (by omega),(by simp),λg h1=>⟨_,rfl,_,rfl,_,rfl,y,rfl,big (by omega),(by simp),λj h2=>⟨_,_,rfl,rfl,big (by omega),_,rfl,_,rfl,big (by rw[c];omega),(by simp),λd h3=>?_⟩⟩⟩;rw[c]at h3;exact q d (by omega)
 ·refine⟨_,rfl,_,_,rfl,rfl,⟨by decide,by decide⟩,_,_,rfl,rfl,(by show(0:Int)<3;decide),rfl,_,rfl,?_⟩;refine cN (λ_=>?_) (λ_=>?_);·refine⟨_,rfl,_,_,rfl,rfl,big (by show 1+y.length<=100;omega),_,rfl,_,_,rfl,rfl,big (by rw[c];show 1+y.length+y.length<=100;omega),_,rfl,_,rfl,big (by rw[c,c];show 1+y.length+y.length<=100;omega),(by simp),λd h3=>?_⟩;rw[c,c]at h3;have h3:d.length<=1+y.length+y.length:=h3;exact q d (by omega)
  ·exact⟨_,rfl,q y (by omega)⟩
noncomputable def dE(w:Str):Bool:=wq (.str w) [.str "nat", .str "none", .str "all", .str "some", .str "same"]
noncomputable def gu:D->Bool| .int i=>decide (0<=i)&&decide (i<=99)|_=>false
mutual noncomputable def bL(nm:D->Bool)(k:Bool):D->Bool
 | .tup (.str w::ps)=>match aW w with| .str s=>(dE w==k)&&dQ nm s.cps.toList ps|_=>false
 |_=>false noncomputable def dQ(nm:D->Bool):List Nat->List D->Bool|[],[]=>true|c::cs,p::ps=>(if c=107 then bL nm true p else if c=116 then bL nm false p else if c=110 then gu p else nm p)&&dQ nm cs ps|_,_=>false end
noncomputable def da(a:D->Bool)(c:Nat)(p:D):Bool:=if c=107 then bL a true p else if c=116 then bL a false p else if c=110 then gu p else a p
theorem aq(a:D->Bool)(c:Nat)(b:List Nat)(p:D)(ps:List D):dQ a (c::b) (p::ps)=(da a c p&&dQ a b ps):=by rw[dQ];rfl
theorem nV{d:D->Bool}:∀{e:List Nat}{ps:List D}{c:Nat}{p:D},dQ d e ps=true->da d c p=true->dQ d (e++[c]) (ps++[p])=true|[],[],c,p,_,h=>by show dQ d (c::[]) (p::[])=true;rw[aq,h];simp[dQ]|[],_::_,_,_,h,_=>by simp[dQ]at h|_::_,[],_,_,h,_=>by simp[dQ]at h|a::e,b::ps,c,p,h,h2=>by rw[aq,cu]at h;show dQ d (a::(e++[c])) (b::(ps++[p]))=true;rw[aq,h.1,nV h.2 h2];rfl
theorem cf{a:D->Bool}{k:Bool}{w s:Str}{ps:List D}(h1:aW w= .str s)(h2:dE w=k)(h3:dQ a s.cps.toList ps=true):bL a k (.tup (.str w::ps))=true:=by rw[bL,h1];simp[h2,h3]
noncomputable def goodW(k:Bool)(w:Str):Bool:=(dE w==k)&&match aW w with| .str s=>s.cps.toList.all (λc=>c==107||c==116)&&decide (s.cps.size<=4)|_=>false
noncomputable def l7:List Str:=["nat","all","same","some","nat","all","none","same"]
noncomputable def kG:List Str:=["var","app","fun","next","var","rec","zero","app","like","carry","never","pair","first","second","name","var"]
theorem zv:l7.all (λw=>w !="var"&&w !="name"&&goodW true w)=true:=by decide+kernel
theorem A2:kG.all (λw=>w=="var"||w=="name"||goodW false w)=true:=by decide+kernel
theorem v_:aW "nat"= .str "":=by decide+kernel
theorem sZ:aW "none"= .str "":=by decide+kernel
theorem s_:aW "zero"= .str "":=by decide+kernel
theorem vQ:dE "nat"=true:=by decide+kernel
theorem sk:dE "none"=true:=by decide+kernel
theorem sX:dE "zero"=false:=by decide+kernel
theorem cS:aW "var"= .str "n":=by decide+kernel
theorem fj:aW "name"= .str "w":=by decide+kernel
theorem vw:dE "var"=false:=by decide+kernel
theorem tL:dE "name"=false:=by decide+kernel
def Wd(k a:Bool)(w:Str):Prop:=(w="var"/\k=false)\/(w="name"/\k=false/\a=false)\/(w≠"var"/\w≠"name"/\w.length<=12/\dE w=k/\∃s,aW w= .str s/\(∀c∈s.cps.toList,c=107\/c=116)/\s.cps.size<=4/\(a=true->s=""))
theorem yU{k:Bool}{w:Str}(h1:w≠"var")(h2:w≠"name")(hl:w.length<=12)(g:goodW k w=true):Wd k false w:=by unfold goodW at g;rw[cu]at g;obtain⟨b,a⟩:=g;refine .inr (.inr ⟨h1,h2,hl,by simpa using b,?_⟩);cases e:aW w with|str s=>rw[e]at a;simp only[cu,List.all_eq_true,Bool.or_eq_true,beq_iff_eq,decide_eq_true_eq]at a;exact⟨s,rfl,a.1,a.2,λz=>by cases z⟩|_=>rw[e]at a;simp at a
theorem Fu:∀w∈l7,Wd true false w:=λw hw=>by
 have g:=List.all_eq_true.mp zv w hw;simp only[cu,bne_iff_ne,ne_eq]at g;have hl:l7.all (λw=>decide (w.length<=12))=true:=by decide+kernel
 exact yU g.1.1 g.1.2 (by simpa using List.all_eq_true.mp hl w hw) g.2
theorem Hh:∀w∈kG,Wd false false w:=λw hw=>by
 have g:=List.all_eq_true.mp A2 w hw;have hl:kG.all (λw=>decide (w.length<=12))=true:=by decide+kernel
 by_cases h1:w="var";·exact .inl ⟨h1,rfl⟩
 ·by_cases h2:w="name";·exact .inr (.inl ⟨h2,rfl,rfl⟩)
  ·refine yU h1 h2 (by simpa using List.all_eq_true.mp hl w hw) ?_;simpa[h1,h2]using g
theorem mv{k:Bool}{w:Str}(h1:w≠"var")(h2:w≠"name")(hl:w.length<=12)(a:dE w=k)(b:aW w= .str ""):Wd k true w:= .inr (.inr ⟨h1,h2,hl,a,Str.ofString "",b,(λc hc=>by have hc:c∈([]:List Nat):=hc;cases hc),(by decide),λ_=>rfl⟩)
theorem nR:(Str.ofString "n").cps.toList=[110]:=by decide+kernel
theorem yN:(Str.ofString "w").cps.toList=[119]:=by decide+kernel
theorem iY{b:D->Bool}{z:Int}(a:0<=z)(h1:z<=99):bL b false (.tup [.str "var", .int z])=true:=by refine cf cS vw ?_;rw[nR,aq];simp[da,gu,a,h1,dQ]
theorem wQ{a:D->Bool}{y:Str}(h:a (.str y)=true):bL a false (.tup [.str "name", .str y])=true:=by refine cf fj tL ?_;rw[yN,aq];simp[da,h,dQ]
theorem one_le_pow(l:Nat):1<=5^l:=Nat.one_le_pow _ _ (by decide)
variable{P:Program}{w:World}{K:PySem.W.Frag}{mg:Str->Option Value}{base:Heap}{f fN fM fS:Addr}{fd Mi Mf Ms:FuncData}
noncomputable def fB(k:Bool):Str:=if k then"k"else"t"
noncomputable def w0(k:Bool):Str:=if k then"nat"else"var"
def iy(n:Nat):Sp:=λvs H Q _=>∃(p:Addr)(a b:Int)(k:Bool)(l:Nat),vs=[.ref p, .str (fB k), .int l]/\H p=some (.lst [.int a, .int b])/\0<=a/\a<2147483647/\1<=l/\l<=n/\n<=10/\∀(d:D)(v:V)(H':Hp)(c e:Int),Rep H' d v->bL aR k d=true->depth d<=l->aM d<=5^l->0<=c->c<2147483647->H' p=some (.lst [.int c, .int e])->cx p H H'->Q v H'
theorem bb:aU ["_law_state_here","_law_want","_law_left","_law_number","_law_words","_law_word","_law_parts","_law_kind"] ["_law_state_here","_law_want","_law_left"] (ao cF):=⟨rfl,rfl,rfl,by decide+kernel,rfl,by decide+kernel,by decide+kernel⟩
theorem wa{t:vE}{n:Nat}(D:Df K mg "_law_grown" cF ["_law_state_here","_law_want","_law_left"])(M:Mg mg t)(pX:cv P w K mg bX "_law_next" (1) ["_law_state_here"] lJ)(pI:cv P w K mg bX "_law_name" (1) ["_law_number"] lZ)(eM:cv P w K mg bX "_law_shape" (1) ["_law_word"] fI)(eD:cv P w K mg bX "_law_grown" (n+2) ["_law_state_here","_law_want","_law_left"] (iy n)):cv P w K mg bX "_law_grown" (n+3) ["_law_state_here","_law_want","_law_left"] (iy (n+1)):=by
 refine D.ok bb (λvs H Q E h=>?_) (λbase f cZ A outer s H vs Q E hr h=>?_);·obtain⟨p,a,b,k,l,rfl,_⟩:=h;rfl
 obtain⟨p,a,b,k,l,rfl,hp,h0,h1,hl1,L4,JU,q⟩:=h;refine⟨_,(aj (aA (i:=3) bb.nd rfl (dH rfl) (bz pX hr.m rfl bB (aa (pv 0) ag))) (eR (bG (aD bN (pv 1) ah (aO _)) (ak (aA (i:=4) bb.nd rfl (dH rfl) (bh (aa ah (aa ah (aa ah (aa ah (aa ah (aa ah (aa ah (aa ah ag))))))))))) (aj (aA (i:=4) bb.nd rfl (dH rfl) (bh (aa ah (aa ah (aa ah (aa ah (aa ah (aa ah (aa ah (aa ah (aa ah (aa ah (aa ah (aa ah ag)))))))))))))) (ak (aA (i:=4) bb.nd rfl (dH rfl) (ar oZ (pv 4) (bh (aa ah (aa ah (aa ah (aa ah ag)))))))))) (eR (bG (L2.PW.pt (uX (aD DQ (pv 2) ae (aO _)) (o9 (aD vd (bu bW (pv 0) ae (λ_ _=>rfl)) ae (aO _))))) (ak (aA (i:=4) bb.nd rfl (dH rfl) (bh (aa (bu bW (pv 4) ae (λ_ _=>rfl)) (aa (bu bW (bh (aa ah (aa ah ag))) (cT kc rfl M.x8 uN (aa (gk bN (pv 1) ah (aO _)) ag)) (λ_ _=>rfl)) ag))))) aZ) (aj (aA (i:=5) bb.nd rfl (dH rfl) (bu bW (pv 4) (ar bo (pv 3) (bf ba rfl M.e_ dR (aa (pv 4) ag))) (λ_ _=>rfl))) (aj (bG (aD bN (pv 5) ah (aO _)) (aj (bG (aD bN (ar bo (ar bH (pv 3) ae) ae) ae (aO _)) (ak (aJ (aX (aa ah (aa (ar bo (ar bH (pv 3) ae) ae) ag))))) aZ) (ak (aJ (aX (aa ah (aa (ar bo (ar bH (pv 3) ae) ae) ag)))))) aZ) (aj (bG (aD bN (pv 5) ah (aO _)) (ak (aJ (aX (aa ah (aa (bz pI hr.m rfl bB (aa (ar bH (pv 3) ae) ag)) ag))))) aZ) (aj (aA (i:=6) bb.nd rfl (dH rfl) (bh (aa (pv 5) ag))) (aj (jv PassesOwn.never rfl (A1 (bz eM (hr.mono (by omega)) rfl bB (aa (pv 5) ag))) (cC (i:=7) bb.nd rfl (dH rfl)) (ak (rC (yY PySem.F.plainAttrs_list PySem.F.slot_list_append PySem.F.type_list_append gD (pv 6) (aa (bz eD hr.m rfl bB (aa (pv 0) (aa (pv 7) (aa (ar iU (pv 2) ae) ag)))) ag))))) (ak (aJ (cT dz rfl M.gb eH (aa (pv 6) ag)))))))))))),?_⟩;try dsimp only[tU,iG]
 refine ug ?_;intro _ _;refine⟨_,rfl,p,a,b,rfl,hp,h0,h1,λa1 u g0 g1 gn=>?_⟩;have Z:(upd H p (.lst [.int a1, .int (b-1)])) p=some (.lst [.int a1, .int (b-1)]):=ai;have HI:cx p H (upd H p (.lst [.int a1, .int (b-1)])):=cx.upd _;generalize upd H p (.lst [.int a1, .int (b-1)])=H1 at Z HI;refine⟨λO H'=>∃(q4:Addr)(g:List Str),O=[some (.ref p),some (.str (fB k)),some (.int l),some (.int u),some (.ref q4),none,none,none]/\H' q4=some (.lst (g.map V.str))/\(∀x∈g,Wd k false x)/\g.length<=16/\g[0]?=some (w0 k)/\H' p=some (.lst [.int a1, .int (b-1)])/\cx p H H',?_,?_⟩
 ·refine⟨_,rfl,rfl,_,rfl,?_⟩;refine cN (λc=>?_) (λc=>?_);·cases k with|false=>exact absurd c (by decide+kernel)|true=>refine⟨(dh rfl),λq4 hq=>⟨q4,l7,rfl,ai,Fu,by decide,rfl,?_,HI.trans (ab hq _).x⟩⟩;rw[aG (aB Z hq)];exact Z
  ·cases k with|true=>exact absurd (by decide+kernel) c|false=>refine⟨(dh rfl),λq3 HU=>⟨_,rfl,(dh rfl),λq2 Gx=>?_⟩⟩;have LK:q3≠q2:=aB ai Gx;refine⟨q3,q2,_,_,rfl,rfl,(by rw[aG LK];exact ai),ai,(by show 12+4<=sizeLine;decide),λq4 F=>⟨q4,kG,rfl,ai,Hh,by decide,rfl,?_,HI.trans (((ab HU _).trans (ab Gx _)).trans (ab F _)).x⟩⟩;exact((ab HU _).trans (ab Gx _)).trans (ab F _) _ _ Z
 rintro Bz H2⟨q4,g,rfl,F,EY,zl,Gm,T,E1⟩;have Ag:0<g.length:=(List.getElem?_eq_some_iff.mp Gm).1;refine⟨λO H'=>∃(q4:Addr)(g:List Str)(X:Bool),O=[some (.ref p),some (.str (fB k)),some (.int l),some (.int u),some (.ref q4),none,none,none]/\H' q4=some (.lst (g.map V.str))/\(∀x∈g,Wd k X x)/\0<g.length/\g.length<=16/\(l<=1->X=true)/\H' p=some (.lst [.int a1, .int (b-1)])/\cx p H H',?_,?_⟩
 ·refine⟨_,rfl,_,_,rfl,rfl,_,rfl,?_⟩;refine cN (λc=>jj ?_) (λc=>⟨_,rfl,p,_,_,_,rfl,rfl,bQ.of T,rfl,_,_,rfl,rfl,_,rfl,cN (λc2=>?_) (λc2=>?nl)⟩);case nl=>have c:¬(l:Int)<=1:=of_decide_eq_false (Bool.eq_false_iff.mpr c);exact⟨q4,g,false,rfl,F,EY,Ag,zl,λz=>by omega,T,E1⟩
  all_goals
   have e0:jY (g.map V.str) 0=some (.str (w0 k)):=aV (j:=0) (by rw[ic,Gm];rfl);refine⟨_,rfl,q4,_,_,_,rfl,rfl,bQ.of F,e0,(dh rfl),λq5 E2=>⟨_,rfl,rfl, .inr ⟨_,rfl,?_⟩⟩⟩;cases k with
    |true=>
     refine⟨q5,_,_, .str "none",rfl,rfl,bQ.of ai,rfl,(dh rfl),λB N=>⟨B,["nat","none"],true,rfl,ai,?_,by decide,by decide,λ_=>rfl,?_,E1.trans ((ab E2 _).trans (ab N _)).x⟩⟩
     ·intro x I;simp only[zQ26,zQ27,or_false]at I;rcases I with rfl|rfl;·exact mv (by decide+kernel) (by decide+kernel) (by decide+kernel) vQ v_
      ·exact mv (by decide+kernel) (by decide+kernel) (by decide+kernel) sk sZ
     ·exact((ab E2 _).trans (ab N _)) _ _ T
    |false=>
     refine⟨q5,_,_, .str "zero",rfl,rfl,bQ.of ai,rfl,(dh rfl),λB N=>⟨B,["var","zero"],true,rfl,ai,?_,by decide,by decide,λ_=>rfl,?_,E1.trans ((ab E2 _).trans (ab N _)).x⟩⟩
     ·intro x I;simp only[zQ26,zQ27,or_false]at I;rcases I with rfl|rfl;·exact .inl ⟨rfl,rfl⟩
      ·exact mv (by decide+kernel) (by decide+kernel) (by decide+kernel) sX s_
     ·exact((ab E2 _).trans (ab N _)) _ _ T
 clear T E1 F EY zl Gm Ag;rintro Bq Y⟨q4,g,X,rfl,F,EY,Ag,zl,Ku,Gr,GD⟩;have hlen:(g.map V.str).length=g.length:=dA _;have i0:0<=u%(g.length:Int):=Int.emod_nonneg _ (by omega);have i1:u%(g.length:Int)<g.length:=Int.emod_lt_of_pos _ (by omega);have hi:(u%(g.length:Int)).toNat<g.length:=by omega
 obtain⟨x,I⟩:∃x,g[(u%(g.length:Int)).toNat]?=some x:=⟨_,zQ03 hi⟩;have yB:jY (g.map V.str) (u%((g.map V.str).length:Int))=some (.str x):=by
  rw[hlen];have e:u%(g.length:Int)=(((u%(g.length:Int)).toNat:Nat):Int):=by omega
  rw[e];exact aV (by rw[ic,I];rfl)
 have hW:Wd k X x:=EY x (List.mem_of_getElem? I);refine⟨_,rfl,_,rfl,_,rfl,q4,_,rfl, .inl (bQ.of F),_,_,rfl,rfl,(by show(0:Int)<(((g.map V.str).length:Nat):Int);rw[hlen];omega),q4,_,_,_,rfl,rfl,bQ.of F,yB,?_⟩;have done:∀(ds:List KM.D)(us:List V)(t:Addr)(G:Hp)(r C:Int),G t=some (.tup us)->bF G ds us->bL aR k (.tup ds)=true->depth (.tup ds)<=l->aM (.tup ds)<=5^l->0<=r->r<2147483647->G p=some (.lst [.int r, .int C])->cx p H G->Q (.ref t) G:=λds us t G r C e1 e2 e3 R S L e7 e8 e9=>q (.tup ds) (.ref t) G r C ⟨t,us,rfl,e1,e2⟩ e3 R S L e7 e8 e9;have zc:∀(x y:KM.D),aM x=0->aM y=0->depth x=0->depth y=0->depth (.tup [x,y])<=l/\aM (.tup [x,y])<=5^l:=λx y k1 k2 d1 d2=>by have :=one_le_pow l;simp only[depth,aF,aM,aK,k1,k2,d1,d2];omega
 refine⟨_,rfl,rfl,_,rfl,?_⟩;refine cN (λc=>?_) (λc=>?_)
 ·have c:V.str x=V.str "var":=of_decide_eq_true c;cases c;have W:k=false:=by
   rcases hW with⟨_,h⟩|⟨h,_⟩|⟨h,_⟩;·exact h
   ·exact absurd h (by decide+kernel)
   ·exact absurd rfl h
  have fin:∀(z:Int)(t:Addr),0<=z->z<=99->Y t=none->Q (.ref t) (upd Y t (.tup [.str "var", .int z])):=λz t z0 z1 ht=>by obtain⟨R,S⟩:=zc (.str "var") (.int z) rfl rfl rfl rfl;exact done [.str "var", .int z] _ t _ a1 (b-1) ai ⟨_,_,rfl,⟨rfl,by decide⟩,_,_,rfl,rfl,rfl⟩ (by rw[W];exact iY z0 z1) R S g0 g1 (ab ht _ _ _ Gr) (GD.trans (ab ht _).x)
  refine⟨_,rfl,_,_,rfl,rfl,⟨by decide,by decide⟩,_,_,rfl,rfl,(by show(0:Int)<9;decide),rfl,_,rfl,?_⟩;refine cN (λc=>?_) (λc=>?_);·refine⟨_,rfl,_,_,rfl,rfl,⟨by decide,by decide⟩,_,_,rfl,rfl,(by show(0:Int)<100;decide),(dh rfl),λt ht=>fin _ t (Int.emod_nonneg _ (by decide)) ?_ ht⟩;have :=Int.emod_lt_of_pos (u/144) (show(0:Int)<100 by decide);omega
  ·refine⟨_,rfl,_,_,rfl,rfl,⟨by decide,by decide⟩,_,_,rfl,rfl,(by show(0:Int)<5;decide),(dh rfl),λt ht=>fin _ t (Int.emod_nonneg _ (by decide)) ?_ ht⟩;have :=Int.emod_lt_of_pos (u/144) (show(0:Int)<5 by decide);omega
 have nv:x≠"var":=λz=>c (by rw[z];decide+kernel);refine⟨_,rfl,rfl,_,rfl,?_⟩;refine cN (λc=>?_) (λc=>?_)
 ·have c:V.str x=V.str "name":=of_decide_eq_true c;cases c;have W:k=false:=by
   rcases hW with⟨h,_⟩|⟨_,h,_⟩|⟨_,h,_⟩;·exact absurd h nv
   ·exact h
   ·exact absurd rfl h
  refine⟨_,rfl,_,_,rfl,rfl,⟨by decide,by decide⟩,_,rfl,Int.ediv_nonneg gn (by decide),λy hy=>⟨(dh rfl),λt ht=>?_⟩⟩;obtain⟨R,S⟩:=zc (.str "name") (.str y) rfl rfl rfl rfl;exact done [.str "name", .str y] _ t _ a1 (b-1) ai ⟨_,_,rfl,⟨rfl,by decide⟩,_,_,rfl,⟨rfl,by omega⟩,rfl⟩ (by rw[W];exact wQ rfl) R S g0 g1 (ab ht _ _ _ Gr) (GD.trans (ab ht _).x)
 have nn:x≠"name":=λz=>c (by rw[z];decide+kernel);obtain⟨L5,W,J,xh,Cu,h4,DM⟩:x.length<=12/\dE x=k/\∃s,aW x= .str s/\(∀c∈s.cps.toList,c=107\/c=116)/\s.cps.size<=4/\(X=true->s=""):=by
  rcases hW with⟨h,_⟩|⟨h,_⟩|⟨_,_,h1,h2,h3⟩;·exact absurd h nv
  ·exact absurd h nn
  ·exact⟨h1,h2,h3⟩
 refine⟨_,rfl,(dh rfl),λB N=>?_⟩;have zu:Y B=none:=N;refine⟨_,rfl,x,rfl,λG s4=>?_⟩;rw[xh];refine⟨J,rfl,jH J.cps.size (λi O H'=>∃(ds:List KM.D)(us:List V)(r C:Int)(kv:Option V),O=[some (.ref p),some (.str (fB k)),some (.int l),some (.int u),some (.ref q4),some (.str x),some (.ref B),kv]/\H' B=some (.lst (.str x::us))/\bF H' ds us/\dQ aR (J.cps.toList.take i) ds=true/\us.length=i/\aF ds<=l-1/\aK ds<=i*5^(l-1)/\0<=r/\r<2147483647/\H' p=some (.lst [.int r, .int C])/\cx p Y H') ?_ ?_ ?_⟩;·refine⟨[],[],a1,b-1,none,rfl,s4 _ _ ai,rfl,by simp[dQ],rfl,zQ08 _,by simp[aK],g0,g1,?_,λc o _ h=>s4 _ _ (ab zu _ _ _ h)⟩;exact s4 _ _ (ab zu _ _ _ Gr)
 ·rintro i O H5 LF⟨ds,us,r,C,kv,rfl,L,rp,An,FJ,Lw,LB,g5,GI,ep,sx⟩;refine⟨LF,?_⟩;rintro x' H'⟨rfl,c,hc,rfl⟩;have U:J.cps.toList[i]?=some c:=by simpa using hc
  have GC:c∈J.cps.toList:=List.mem_of_getElem? U;have HW:2<=l:=by
   refine Nat.le_of_not_lt λz=>?_;have e:=DM (Ku (by omega));subst e;have e0:(Str.ofString "").cps.size=0:=by decide
   omega
  have n6:B≠p:=C_ L ep (by intro z;cases z);have el:((l:Int)-1)=((l-1:Nat):Int):=by omega
  obtain⟨kk,Kg,KJ⟩:∃kk:Bool,(⟨#[c]⟩:Str)=fB kk/\∀d,bL aR kk d=true->da aR c d=true:=by
   rcases Cu c GC with rfl|rfl;·exact⟨true,by decide+kernel,λd h=>by simpa[da]using h⟩
   ·exact⟨false,by decide+kernel,λd h=>by simpa[da]using h⟩
  refine⟨_,rfl, .inl ⟨rfl,_,bQ.of L⟩,_,rfl,_,rfl,_,rfl,_,_,rfl,rfl,p,r,C,kk,l-1,(by rw[<-Kg];exact congrArg (λz=>[V.ref p,V.str ⟨#[c]⟩,V.int z]) el),ep,g5,GI,by omega,by omega,by omega,λd v H6 a6 b6 r6 w6 Mq Mb z6 LJ FN s6=>?_⟩;have Jt:H6 B=some (.lst (.str x::us)):=s6 _ _ n6 L;have np:∀vs,H' p≠some (.tup vs):=λvs z=>by rw[ep]at z;cases z
  have nq:∀vs,H6 B≠some (.tup vs):=λvs z=>by rw[Jt]at z;cases z
  refine⟨B,_,v,rfl,rfl,Jt,(by show(us.length+1)<sizeLine;rw[FJ];exact dk (show i+1<100 by omega) (by decide)),?_⟩;refine⟨ds++[d],us++[v],a6,b6,_,rfl,ai,?_,?_,?_,?_,?_,z6,LJ,?_,?_⟩;·exact bF.iM (cx.upd _) nq ((bF.iM s6 np rp).snoc r6)
  ·have et:J.cps.toList.take (i+1)=J.cps.toList.take i++[c]:=by rw[List.take_add_one,U];rfl
   rw[et];exact nV An (KJ d w6)
  ·rw[gf,FJ];rfl
  ·rw[jI];simp only[aF];omega
  ·rw[iE];simp only[aK];rw[Nat.succ_mul];omega
  ·rw[aG n6.symm];exact FN
  ·intro c' o U h;rw[aG (aB h zu)];exact s6 _ _ U (sx _ _ U h)
 ·rintro O H5⟨ds,us,r,C,kv,rfl,L,rp,An,FJ,Lw,LB,g5,GI,ep,sx⟩;refine⟨zQ04 _,?_⟩;refine⟨_,rfl,B,_,rfl, .inl ⟨bQ.of L,λt ht=>?_⟩⟩;rw[List.take_of_length_le (by simp)]at An;have K4:4*5^(l-1)+1<=5^l:=by obtain⟨m,rfl⟩:∃m,l=m+1:=⟨l-1,by omega⟩;have :=one_le_pow m;rw[Nat.add_sub_cancel,Nat.pow_succ];omega
  refine done (.str x::ds) _ t _ r C ai ⟨_,_,rfl,⟨rfl,by omega⟩,rp.mono (ab ht _)⟩ (cf xh W An) ?_ ?_ g5 GI (ab ht _ _ _ ep) (GD.trans (sx.trans (ab ht _).x));·simp only[depth,aF];omega
  ·simp only[aM,aK];have :J.cps.size*5^(l-1)<=4*5^(l-1):=Nat.mul_le_mul_right _ h4;omega
variable{t:vE}
theorem zk(D:Df K mg "_law_cell_at" bR ["_law_script","_law_k"])(M:Mg mg t):cv P w K mg bX "_law_cell_at" (1) ["_law_script","_law_k"] (p7 K):=by obtain⟨f,fd,F,m,b⟩:=D;exact⟨f,fd,λbase=>xb F M.e_,m,F.kp,b⟩
theorem AH(D:Df K mg "_law_next" cV ["_law_state_here"]):cv P w K mg bX "_law_next" (1) ["_law_state_here"] lJ:=by obtain⟨f,fd,F,m,b⟩:=D;exact⟨f,fd,λbase=>xo F,m,F.kp,b⟩
theorem xO(D:Df K mg "_law_state" cI ["_law_cell","_law_most"]):cv P w K mg bX "_law_state" (1) ["_law_cell","_law_most"] lY:=by obtain⟨f,fd,F,m,b⟩:=D;exact⟨f,fd,λbase=>uV F,m,F.kp,b⟩
theorem wF(D:Df K mg "_law_shape" cK ["_law_word"]):cv P w K mg bX "_law_shape" (1) ["_law_word"] fI:=by obtain⟨f,fd,F,m,b⟩:=D;exact⟨f,fd,λbase=>t7 F,m,F.kp,b⟩
theorem Ak(D:Df K mg "_law_name" cW ["_law_number"]):cv P w K mg bX "_law_name" (1) ["_law_number"] lZ:=by obtain⟨f,fd,F,m,b⟩:=D;exact⟨f,fd,λbase=>wK F,m,F.kp,b⟩
theorem qY(D:Df K mg "_law_grown" cF ["_law_state_here","_law_want","_law_left"])(M:Mg mg t)(d:cv P w K mg bX "_law_next" (1) ["_law_state_here"] lJ)(c:cv P w K mg bX "_law_name" (1) ["_law_number"] lZ)(e:cv P w K mg bX "_law_shape" (1) ["_law_word"] fI):∀n:Nat,cv P w K mg bX "_law_grown" (n+2) ["_law_state_here","_law_want","_law_left"] (iy n)|0=>cv.never D λvs H Q E h=>by obtain⟨p,a,b,k,l,_,_,_,_,h1,h2,_⟩:=h;omega|n+1=>wa D M d c e (qY D M d c e n)
end K12
end
section
namespace K12
open PySem L2 L3 KM
seal L2.PE L2.PS L2.jL L2.PT L2.PW L2.PA L2.PG L2.vG L2.PI L2.PC L2.PO L2.uY L2.PK L3.uv
variable{P:Program}{w:World}{K:PySem.W.Frag}{mg:Str->Option Value}{base:Heap}{t:vE}
noncomputable def cj:List (Str×List V):=[("nat",[]),("none",[]),("all",[.str "kind", .str "kind"]),("some",[.str "kind", .str "kind"]),("same",[.str "kind", .str "term", .str "term"]),("var",[]),("fun",[.str "kind", .str "term"]),("app",[.str "term", .str "term"]),("zero",[]),("next",[.str "term"]),("rec",[.str "kind", .str "term", .str "term", .str "term"]),("like",[.str "kind", .str "term"]),("carry",[.str "kind", .str "term", .str "term"]),("never",[.str "kind", .str "term"]),("pair",[.str "kind", .str "term", .str "term"]),("first",[.str "term"]),("second",[.str "term"]),("name",[])]
noncomputable def DB(c:Nat):V:=if c=107 then .str "kind"else .str "term"
noncomputable def yK(r:Str×List V):Bool:=match aW r.1 with| .str s=>decide (s.cps.size<=4)&&if r.1="var"then decide (s="n")else if r.1="name"then decide (s="w")else s.cps.toList.all (λc=>c==107||c==116)&&decide (r.2=s.cps.toList.map DB)|_=>false
theorem xm:cj.all yK=true:=by decide+kernel
theorem lookup_mem{a:Type}{x:Str}{v:a}:∀{l:List (Str×a)},l.lookup x=some v->(x,v)∈l
 |[],h=>by simp at h
 |(k,u)::l,h=>by
  rw[ik]at h;cases e:x==k with
   |true=>
    rw[e]at h;obtain rfl:x=k:=by simpa using e
    cases h;exact dj
   |false=>rw[e]at h;exact d9 _ (lookup_mem h)
theorem lookup_none{a:Type}{x:Str}:∀{l:List (Str×a)},l.lookup x=none->x∉l.map (·.1)
 |[],_=>by simp
 |(k,u)::l,h=>by
  rw[ik]at h;cases e:x==k with
   |true=>rw[e]at h;cases h
   |false=>
    rw[e]at h;have :=lookup_none h;have e:¬x=k:=by simpa using e
    simp only[eX,zQ26,not_or];exact⟨e,this⟩
inductive LC(w:Str):Prop where|bj(h1:cj.lookup w=none)(h2:aW w= .bj)|var(h1:cj.lookup w=some [])(h2:w="var")|name(h1:cj.lookup w=some [])(h2:w="name")|Es(s:Str)(h1:cj.lookup w=some (s.cps.toList.map DB))(h2:aW w= .str s)(h3:w≠"var")(h4:w≠"name")(h5:∀c∈s.cps.toList,c=107\/c=116)(h6:s.cps.size<=4)
theorem xI{tab:List (Key×V)}{w:Str}(h:∀k∈tab.map (·.1),k≠Sum.inr w):dB tab (Sum.inr w:Key)=none:=by cases e:dB tab (Sum.inr w:Key)with|none=>rfl|some v=>exact absurd rfl (h _ (xi e))
noncomputable def ye(k:Key)(l:List Str):Bool:=match k with| .inr x=>decide (x∈l)| .inl _=>true
theorem HL(w:Str):LC w:=by
 cases h:cj.lookup w with
  |none=>
   refine .bj h ?_;have l:=lookup_none h;have sub:∀tab:List (Key×V),(tab.map (·.1)).all (λk=>ye k (cj.map (·.1)))=true->dB tab (Sum.inr w:Key)=none:=λtab ht=>xI λk j z=>by subst z;have :=List.all_eq_true.mp ht _ j;simp only[ye,decide_eq_true_eq]at this;exact l this
   have a:=sub jU (by decide+kernel);have b:=sub jQ (by decide+kernel);have c:=sub sj (by decide+kernel);unfold aW;rw[a,b,c];rfl
  |some ds=>
   have m:=lookup_mem h;have g:=List.all_eq_true.mp xm _ m;unfold yK at g;by_cases hv:w="var";·subst hv;exact .var (by decide+kernel) rfl
   ·by_cases hn:w="name";·subst hn;exact .name (by decide+kernel) rfl
    ·cases e:aW w with|str s=>rw[e]at g;simp only[hv,hn,if_false,cu,List.all_eq_true,Bool.or_eq_true,beq_iff_eq,decide_eq_true_eq]at g;obtain⟨d,f,i⟩:=g;exact .Es s (by rw[h,i]) e hv hn f d|_=>rw[e]at g;simp at g
noncomputable def cw(x:Str):Bool:=decide (x="var")||decide (x="name")
noncomputable def aE(x:Str)(ps:List D):List D:=if cw x=true then[]else ps
def ph:Sp:=λvs H Q _=>∃(x:Str)(ps:List D)(v:V),vs=[v]/\Rep H (.tup (.str x::ps)) v/\ps.length<=10/\∀(a:Addr)(us:List V)(H':Hp),H a=none->aT H H'->H' a=some (.lst us)->bF H' (aE x ps) us->Q (.ref a) H'
theorem oY:aU ["thing"] ["thing"] (ao eV):=⟨rfl,rfl,rfl,by decide+kernel,rfl,by decide+kernel,by decide+kernel⟩
theorem sQ(D:Df K mg "kids_of" eV ["thing"])(M:Mg mg t):cv P w K mg bX "kids_of" (1) ["thing"] ph:=by
 refine D.ok oY (λvs H Q E h=>?_) (λbase f cZ A outer s H vs Q E hr h=>?_);·obtain⟨x,ps,v,rfl,_⟩:=h;rfl
 obtain⟨x,ps,v,rfl,r,hl,q⟩:=h;obtain⟨a,us,rfl,ha,u,us,rfl,⟨rfl,o⟩,i⟩:=r;have n:=i.length;have e:jY (V.str x::us) 0=some (.str x):=aV (j:=0) rfl;have hT:eN K H a (.str x::us):=eN.of ha;refine⟨_,(aj (bG (L2.PW.pt (uX (aD bN (bu ck (pv 0) ae (λ_ _=>rfl)) ah (aO _)) (o9 (aD bN (bu ck (pv 0) ae (λ_ _=>rfl)) ah (aO _))))) (ak (aJ (bh ag))) aZ) (ak (aJ (cT kW rfl M.uO rQ (aa (uG xQ (pv 0) (dI ae) cD) ag))))),?_⟩;try dsimp only[tU,m]
 refine ug ?_;intro _ _;have leaf:cw x=true->0<=sizeLine/\∀p,H p=none->Q (.ref p) (upd H p (.lst [])):=λc=>⟨zQ08 _,λp b=>q p [] _ b (ab b _) ai (by unfold aE;rw[if_pos c];exact rfl)⟩;refine⟨_,rfl,a,_,_,_,rfl,rfl,hT,e,rfl,_,rfl,?_⟩;refine cN (λc=>?_) (λc=>?_);·refine jj ?_;have c:V.str x=V.str "var":=of_decide_eq_true c;cases c;exact leaf rfl
 refine⟨_,rfl,a,_,_,_,rfl,rfl,hT,e,rfl,_,rfl,?_⟩;refine cN (λd=>?_) (λd=>?_);·have d:V.str x=V.str "name":=of_decide_eq_true d;cases d;exact leaf (by decide+kernel)
 have nl:cw x=false:=by unfold cw;have h1:x≠"var":=λz=>c (by rw[z];decide+kernel);have h2:x≠"name":=λz=>d (by rw[z];decide+kernel);simp[h1,h2]
 have k:aE x ps=ps:=by unfold aE;rw[nl];rfl
 rw[k]at q;have g:jW (V.str x::us) (some 1) none=us:=by have :=sG (V.str x::us) 1;simpa using this
 refine⟨_,rfl,_,rfl,a,_,rfl,hT,λp b=>?_,λz=>?_⟩;·rw[g];refine⟨p,us,rfl, .inr (eN.of ai),λl hl=>?_⟩;exact q l us _ ((ab b _).free hl) ((ab b _).trans (ab hl _)) ai (i.mono ((ab b _).trans (ab hl _)))
 ·rw[g]at z;exact absurd (congrArg List.length z) (by simp)
theorem fC{b:D->Bool}:∀{a:List Nat}{ps:List D},dQ b a ps=true->a.length=ps.length|[],[],_=>rfl|[],_::_,h=>by simp[dQ]at h|_::_,[],h=>by simp[dQ]at h|c::a,p::ps,h=>by rw[aq,cu]at h;rw[ig,ig,fC h.2]
noncomputable def Bm(c:Nat):Bool:=!(Builtin.Str.occurrences (Str.ofString "kt") ⟨#[c]⟩ 0 (Str.ofString "kt").length 1).isEmpty
theorem HR:Bm 107=true:=by decide+kernel
theorem IG:Bm 116=true:=by decide+kernel
theorem K2:Bm 110=false:=by decide+kernel
theorem K0:Bm 119=false:=by decide+kernel
theorem bT{f:D->Bool}{k:Bool}{x:Str}{ps:List D}(h:bL f k (.tup (.str x::ps))=true):∃s,aW x= .str s/\dE x=k/\dQ f s.cps.toList ps=true/\s.cps.size<=4/\s.cps.toList.length=ps.length/\(∀c∈s.cps.toList,Bm c=!cw x)/\(cw x=false->∀c∈s.cps.toList,c=107\/c=116)/\∃r,cj.lookup x=some r/\r.length=(aE x ps).length:=by
 have d:∀s,aW x= .str s->dE x=k/\dQ f s.cps.toList ps=true:=λs e=>by rw[bL,e,cu]at h;exact⟨by simpa using h.1,h.2⟩
 cases HL x with
  |bj h1 h2=>rw[bL,h2]at h;simp at h
  |var h1 h2=>subst h2;obtain⟨b,a⟩:=d _ cS;refine⟨_,cS,b,a,by decide,fC a,λc hc=>?_,λz=>absurd z (by decide+kernel),_,h1,by unfold aE;rw[if_pos (by decide+kernel)];rfl⟩;rw[nR]at hc;rw[List.mem_singleton.mp hc,K2];decide+kernel
  |name h1 h2=>subst h2;obtain⟨b,a⟩:=d _ fj;refine⟨_,fj,b,a,by decide,fC a,λc hc=>?_,λz=>absurd z (by decide+kernel),_,h1,by unfold aE;rw[if_pos (by decide+kernel)];rfl⟩;rw[yN]at hc;rw[List.mem_singleton.mp hc,K0];decide+kernel
  |Es s h1 h2 h3 h4 h5 h6=>
   obtain⟨b,a⟩:=d s h2;have nl:cw x=false:=by unfold cw;simp[h3,h4]
   refine⟨s,h2,b,a,h6,fC a,λc hc=>?_,λ_=>h5,_,h1,?_⟩
   ·rw[nl];rcases h5 c hc with z|z<;>rw[z];·exact HR
    ·exact IG
   ·unfold aE;rw[nl,dA,fC a];rfl
def iC:Sp:=λvs H Q _=>∃(x:Str)(ps:List D)(v:V)(k:Bool),vs=[v]/\Rep H (.tup (.str x::ps)) v/\bL aR k (.tup (.str x::ps))=true/\∀(a:Addr)(us:List V)(H':Hp),H a=none->aT H H'->H' a=some (.lst us)->bF H' (aE x ps) us->Q (.ref a) H'
theorem si{us:List V}{n:Nat}(h:us.length=n):(List.range n).filterMap (λi=>us[i]?)=us:=by subst h;induction us with|nil=>rfl|cons a us b=>rw[ig,List.range_succ_eq_map,lQ];simp only[List.getElem?_cons_zero];rw[List.filterMap_map];congr 1
theorem iK{a:Type}{n:Nat}:(List.range n).filterMap (λ_=>(none:Option a))=[]:=by simp
theorem gJ:aU ["_law_thing","_law_shape_here"] ["_law_thing"] (ao c8):=⟨rfl,rfl,rfl,by decide+kernel,rfl,by decide+kernel,by decide+kernel⟩
theorem pC(D:Df K mg "_law_kids" c8 ["_law_thing"])(M:Mg mg t)(y:cv P w K mg bX "_law_shape" (1) ["_law_word"] fI):cv P w K mg bX "_law_kids" (2) ["_law_thing"] iC:=by
 refine D.ok gJ (λvs H Q E h=>?_) (λbase f cZ A outer s H vs Q E hr h=>?_);·obtain⟨x,ps,v,k,rfl,_⟩:=h;rfl
 obtain⟨x,ps,v,k,rfl,r,wf,q⟩:=h;obtain⟨a,us,rfl,ha,v0,us,rfl,⟨rfl,hx⟩,o⟩:=r;have S:=o.length;have F:jY (V.str x::us) 0=some (.str x):=aV (j:=0) rfl;have hT:eN K H a (.str x::us):=eN.of ha;obtain⟨b,T,Z,An,h4,hlen,O,_,_⟩:=bT wf;refine⟨_,(aj (aA (i:=1) gJ.nd rfl (dH rfl) (bz y hr.m rfl bB (aa (bu ck (pv 0) ae (λ_ _=>rfl)) ag))) (ak (aJ (kN (N':=["_law_k","_law_thing","_law_shape_here"]) (own:=1) (fr:=[0,1]) rfl (lj (N:=["_law_thing","_law_shape_here"]) (sc:=ao c8) rfl rfl rfl (by decide+kernel)) (cz rfl M.dN (aa (bf ma rfl M.e_ dR (aa (pv 1) ag)) ag)) (fJ (by decide)) (λ_ _ _=>(cC (i:=0) (show List.Nodup (["_law_k","_law_thing","_law_shape_here"]:List Str)by decide+kernel) rfl (Or.inl rfl))) (λ_ _ _=>(kI (aD tM (bu Av (pv 2) (pv 0) (λ_ _=>rfl)) ah rfl))) (λ_ _ _=>(bu (kA (K:=K)) (pv 1) (ar cB (pv 0) ae) (λ_ _=>rfl))))))),?_⟩;try dsimp only[tU,Y]
 refine ug ?_;intro _ _;refine⟨_,rfl,a,_,_,_,rfl,rfl,hT,F,x,rfl,λz s1=>?_⟩;rw[T];have U:b.cps.size=us.length:=by rw[S,<-hlen];simp
 have L_:b.length=b.cps.size:=rfl;have d:aT H z:=s1;refine⟨_,rfl,b,rfl,bM h4 (by decide),_,rfl,(by show-(2^62)<=(b.length:Int);omega),(by show(b.length:Int)<2^62;omega),λp m=>jB b.cps.size (λi=>if cw x=true then none else us[i]?) m (bM h4 (by decide)) (λi l hi s2=>⟨hi,?_⟩) λl s2 h2=>⟨zQ04 _,?_⟩⟩
 ·rintro x' W⟨rfl,rfl⟩R X I J;obtain⟨c,hc⟩:∃c,b.cps[i]?=some c:=⟨_,Array.getElem?_eq_getElem hi⟩;have L:c∈b.cps.toList:=by
   have :b.cps.toList[i]?=some c:=by simpa using hc
   exact List.mem_of_getElem? this
  have hb:=O c L;have B:(0:Int)+(i:Int)=((i:Nat):Int):=by omega
  refine⟨_,rfl,_,rfl,b,_,c,rfl,rfl,bM h4 (by decide),(by rw[B];exact aV (by simpa using hc)),_,_,rfl,rfl,_,rfl,?_⟩;have G:(!(Builtin.Str.occurrences (Str.ofString "kt") ⟨#[c]⟩ 0 (Str.ofString "kt").length 1).isEmpty)=!cw x:=hb;rw[G];refine cN (λg=>?_) (λg=>?_)
  ·have nl:cw x=false:=by simpa using g
   obtain⟨u,n⟩:∃u,us[i]?=some u:=⟨_,zQ03 (by omega)⟩;have C:(0:Int)+(i:Int)+1=((i+1:Nat):Int):=by omega
   exact⟨_,rfl,_,rfl,_,_,rfl,rfl,a,_,_,u,rfl,rfl,eN.of (s2 _ _ (d _ _ ha)),(by rw[C];exact aV (by simpa using n)),I u _ (by rw[nl];exact n) (aT.refl _)⟩
  ·have e:cw x=true:=by simpa using g
   exact J _ (by rw[if_pos e]) (aT.refl _)
 ·refine q p _ l (d.free m) (d.trans s2) h2 ?_;unfold aE;by_cases e:cw x=true;·simp only[e,if_true];rw[iK];exact rfl
  ·simp only[e,eW,if_false];rw[U,si (us:=us) rfl];exact o.mono (d.trans s2)
end K12
end
section
namespace K12
open PySem L2 L3 KM PyProof.Rows
seal L2.PE L2.PS L2.jL L2.PT L2.PW L2.PA L2.PG L2.vG L2.PI L2.PC L2.PO L2.uY L2.PK L3.uv
variable{P:Program}{w:World}{K:PySem.W.Frag}{mg:Str->Option Value}{base:Heap}{t:vE}
noncomputable def BO:List (Str×V):=[("all", .int 1),("some", .int 1),("fun", .int 1),("rec", .int 0),("carry", .int 0)]
noncomputable def fZ(x:Str):V:=(KTD.datumAt x BO).getD .bj
noncomputable def cQ(x:Str)(i:Nat):V:=if decide (V.int i=fZ x)=true then .int 1 else .int 0
noncomputable def cU(x:Str)(n:Nat):List V:=(List.range n).map (cQ x)
def eU:Sp:=λvs H Q _=>∃(x:Str)(ps:List D)(v:V)(k:Bool),vs=[v]/\Rep H (.tup (.str x::ps)) v/\bL aR k (.tup (.str x::ps))=true/\∀(a:Addr)(H':Hp),aT H H'->H' a=some (.lst (cU x (aE x ps).length))->Q (.ref a) H'
theorem sH(x:Str)(i:Int):ud (.int i) (fZ x)=true:=by
 unfold fZ;cases e:KTD.datumAt x BO with
  |none=>rfl
  |some v=>
   have :v= .int 1\/v= .int 0:=by
    simp only[KTD.datumAt,BO]at e;repeat' split at e
    all_goals first|(cases e;exact .inl rfl)|(cases e;exact .inr rfl)|cases e
   rcases this with z|z<;>rw[z]<;>rfl
theorem hV:aU ["thing","over"] ["thing"] (ao c7):=⟨rfl,rfl,rfl,by decide+kernel,rfl,by decide+kernel,by decide+kernel⟩
theorem pD(D:Df K mg "binds_of" c7 ["thing"])(M:Mg mg t){as:List Addr}(T:KD K t.jA cj as)(B:jC K t.eA BO):cv P w K mg bX "binds_of" (1) ["thing"] eU:=by
 refine D.ok hV (λvs H Q E h=>?_) (λbase f cZ A outer s H vs Q E hr h=>?_);·obtain⟨x,ps,v,k,rfl,_⟩:=h;rfl
 obtain⟨x,ps,v,k,rfl,r,wf,q⟩:=h;obtain⟨a,us,rfl,ha,Y,us,rfl,⟨rfl,W⟩,G⟩:=r;have O:=G.length;have m:jY (V.str x::us) 0=some (.str x):=aV (j:=0) rfl;have hT:eN K H a (.str x::us):=eN.of ha;obtain⟨X,S,J,U,h4,hlen,L,_,d,F,o⟩:=bT wf;obtain⟨b,y,z⟩:=T.some F;have hn:(aE x ps).length<=4:=by
  unfold aE;split;·exact zQ08 _
  ·rw[<-hlen];simpa using h4
 refine⟨_,(aj (aA (i:=1) hV.nd rfl (dH rfl) (uZ (qI M.g_BINDER_OVER rfl) (bu ck (pv 0) ae (λ_ _=>rfl)) ⟨rfl,rfl,rfl,rfl⟩)) (ak (aJ (kN (N':=["number","over"]) (own:=1) (fr:=[1]) rfl (lj (N:=["thing","over"]) (sc:=ao c7) rfl rfl rfl (by decide+kernel)) (cz rfl M.dN (aa (bf ba rfl M.e_ dR (aa (zI (qI M.g_KIDS_DUE rfl) (bu ck (pv 0) ae (λ_ _=>rfl)) (λ_ _=>rfl)) ag)) ag)) (fJ (by decide)) (λ_ _ _=>(cC (i:=0) (show List.Nodup (["number","over"]:List Str)by decide+kernel) rfl (Or.inl rfl))) (λ_ _ _=>xE) (λ_ _ _=>(mJ (aD bN (pv 0) (pv 1) (aO _)) ae ae)))))),?_⟩;try dsimp only[tU,I]
 refine ug ?_;intro _ _;refine⟨_,_,rfl,B,_,rfl,a,_,_,_,rfl,rfl,hT,m,x,rfl,?_⟩;refine⟨_,rfl,a,_,_,_,rfl,rfl,hT,m,_,_,x,_,rfl,rfl,T.tab,y,b,_,rfl, .inr (z H),_,rfl,(by show-(2^62)<=((d.length:Nat):Int);omega),(by show((d.length:Nat):Int)<2^62;omega),λp C=>sN d.length (cQ x) C (by rw[o];exact bM hn (by decide)) (λi g hi s2=>⟨hi,?_⟩) λg s2 h2=>⟨zQ04 _,?_⟩⟩
 ·rintro Z l⟨rfl,rfl⟩R n;have u:(0:Int)+(i:Int)=((i:Nat):Int):=by omega
  rw[u];refine⟨_,rfl,_,rfl,sH x i,_,rfl,?_⟩;refine cN (λc=>?_) (λc=>?_)
  ·have e:cQ x i= .int 1:=by unfold cQ;exact if_pos c
   have :=n l (aT.refl _);rw[e]at this;exact this
  ·have e:cQ x i= .int 0:=by unfold cQ;exact if_neg c
   have :=n l (aT.refl _);rw[e]at this;exact this
 ·rw[o]at h2;exact q p g s2 h2
theorem jf(x:Str):∀a:List Str,wq (.str x) (a.map V.str)=decide (x∈a)
 |[]=>rfl
 |y::a=>by
  have b:=jf x a;unfold wq at b⊢;rw[eX,List.any_cons,b];show(y==x||decide (x∈a))=decide (x∈y::a);by_cases e:y=x;·subst e;simp
  ·have c:¬x=y:=λz=>e z.symm;simp[e,c]
theorem sW{x:Str}(h:fZ x= .bj)(n:Nat):cU x n=(eE n [V.int 0]).flatten:=by
 unfold cU;induction n with
  |zero=>rfl
  |succ n a=>
   rw[List.range_succ,List.map_append,a,List.replicate_succ',List.flatten_append];have e:cQ x n= .int 0:=by unfold cQ;rw[h];exact if_neg (by simp)
   simp[e]
theorem sC{x:Str}(h:fZ x= .int 0)(n:Nat):cU x (n+1)=V.int 1::(eE n [V.int 0]).flatten:=by
 unfold cU;rw[List.range_succ_eq_map,eX,List.map_map];have a:cQ x 0= .int 1:=by unfold cQ;rw[h];rfl
 rw[a];congr 1;induction n with
  |zero=>rfl
  |succ n b=>
   rw[List.range_succ,List.map_append,b,List.replicate_succ',List.flatten_append];have e:cQ x (n+1)= .int 0:=by unfold cQ;rw[h];exact if_neg (by simp;omega)
   simp[e]
theorem va{x:Str}(h1:x∉(["all","some","fun"]:List Str))(h2:x∉(["rec","carry"]:List Str)):fZ x= .bj:=by
 simp only[zQ26,zQ27,or_false,not_or]at h1 h2;obtain⟨a1,a2,a3⟩:=h1;obtain⟨a4,a5⟩:=h2;have e:KTD.datumAt x BO=none:=by simp only[KTD.datumAt,BO];simp[a1,a2,a3,a4,a5]
 unfold fZ;rw[e];rfl
theorem kT:aU ["_law_thing"] ["_law_thing"] (ao du):=⟨rfl,rfl,rfl,by decide+kernel,rfl,by decide+kernel,by decide+kernel⟩
theorem nL(D:Df K mg "_law_binds" du ["_law_thing"])(M:Mg mg t)(L:cv P w K mg bX "_law_kids" (2) ["_law_thing"] iC):cv P w K mg bX "_law_binds" (3) ["_law_thing"] eU:=by
 refine D.ok kT (λvs H Q E h=>?_) (λbase f cZ A outer s H vs Q E hr h=>?_);·obtain⟨x,ps,v,k,rfl,_⟩:=h;rfl
 obtain⟨x,ps,v,k,rfl,r,wf,q⟩:=h;have r0:=r;obtain⟨a,us,rfl,ha,v0,us,rfl,⟨rfl,hx⟩,rp⟩:=r;have T:=rp.length;have C:jY (V.str x::us) 0=some (.str x):=aV (j:=0) rfl;obtain⟨sh,xh,hk,An,h4,hlen,Cu,_,d,i,F⟩:=bT wf;have hn:(aE x ps).length<=4:=by
  unfold aE;split;·exact zQ08 _
  ·rw[<-hlen];simpa using h4
 refine⟨_,(aj (bG (aD gw (bu ck (pv 0) ae (λ_ _=>rfl)) (bh (aa ah (aa ah (aa ah ag)))) rfl) (ak (aJ (bh (aa ae (aa ae ag))))) aZ) (aj (bG (aD gw (bu ck (pv 0) ae (λ_ _=>rfl)) (bh (aa ah (aa ah ag))) rfl) (ak (aJ (ar oZ (bh (aa ae ag)) (ar pB (bh (aa ae ag)) (ar iU (bf ba rfl M.e_ dR (aa (pv 0) ag)) ae))))) aZ) (ak (aJ (ar pB (bh (aa ae ag)) (bf ba rfl M.e_ dR (aa (bz L hr.m rfl bB (aa (pv 0) ag)) ag))))))),?_⟩;try dsimp only[tU,iG]
 refine EA ?_;intro _ _ _;refine⟨_,rfl,a,_,_,_,rfl,rfl,eN.of ha,C,(dh rfl),λI U=>⟨I,(["all","some","fun"]:List Str).map V.str,rfl, .inl (bQ.of ai),rfl,rfl,_,rfl,?_⟩⟩;have s1:=ab U (.lst [V.str "all", .str "some", .str "fun"]);have h1:=s1 _ _ ha;show if(wq (.str x) ((["all","some","fun"]:List Str).map V.str))=true then _ else _;rw[jf];generalize upd H I (.lst [V.str "all", .str "some", .str "fun"])=N at s1 h1⊢;refine cN (λc=>?_) (λc=>?_)
 ·have c:x∈(["all","some","fun"]:List Str):=of_decide_eq_true c;have e:cU x (aE x ps).length=[.int 0, .int 1]:=by
   rw[<-F];simp only[zQ26,zQ27,or_false]at c;rcases c with rfl|rfl|rfl
   ·have :d=[.str "kind", .str "kind"]:=by have :=i.symm.trans (show cj.lookup (Str.ofString "all")=some [.str "kind", .str "kind"]by decide+kernel);exact Option.some.inj this
    rw[this];decide+kernel
   ·have :d=[.str "kind", .str "kind"]:=by have :=i.symm.trans (show cj.lookup (Str.ofString "some")=some [.str "kind", .str "kind"]by decide+kernel);exact Option.some.inj this
    rw[this];decide+kernel
   ·have :d=[.str "kind", .str "term"]:=by have :=i.symm.trans (show cj.lookup (Str.ofString "fun")=some [.str "kind", .str "term"]by decide+kernel);exact Option.some.inj this
    rw[this];decide+kernel
  refine⟨(dh rfl),λo m=>q o _ (s1.trans (ab m _)) ?_⟩;rw[e];exact ai
 have c:x∉(["all","some","fun"]:List Str):=of_decide_eq_false (Bool.eq_false_iff.mpr c);refine⟨_,rfl,a,_,_,_,rfl,rfl,eN.of h1,C,(dh rfl),λo m=>⟨o,(["rec","carry"]:List Str).map V.str,rfl, .inl (bQ.of ai),rfl,rfl,_,rfl,?_⟩⟩;have s2:=s1.trans (ab m (.lst [V.str "rec", .str "carry"]));have h2:=ab m (.lst [V.str "rec", .str "carry"]) _ _ h1;show if(wq (.str x) ((["rec","carry"]:List Str).map V.str))=true then _ else _;rw[jf];generalize upd N o (.lst [V.str "rec", .str "carry"])=H2 at s2 h2⊢;refine cN (λb=>?_) (λb=>?_)
 ·have b:x∈(["rec","carry"]:List Str):=of_decide_eq_true b;have ho:fZ x= .int 0/\cw x=false/\1<=d.length:=by
   simp only[zQ26,zQ27,or_false]at b;rcases b with rfl|rfl
   ·have :d=[.str "kind", .str "term", .str "term", .str "term"]:=by have :=i.symm.trans (show cj.lookup (Str.ofString "rec")=some [.str "kind", .str "term", .str "term", .str "term"]by decide+kernel);exact Option.some.inj this
    rw[this];exact⟨by decide+kernel,by decide+kernel,by decide⟩
   ·have :d=[.str "kind", .str "term", .str "term"]:=by have :=i.symm.trans (show cj.lookup (Str.ofString "carry")=some [.str "kind", .str "term", .str "term"]by decide+kernel);exact Option.some.inj this
    rw[this];exact⟨by decide+kernel,by decide+kernel,by decide⟩
  obtain⟨ho,hl,x4⟩:=ho;have S:aE x ps=ps:=by unfold aE;rw[hl];rfl
  rw[S]at F q hn;obtain⟨n,hn'⟩:∃n,ps.length=n+1:=⟨ps.length-1,by omega⟩;rw[hn',sC ho]at q;have O:((V.str x::us).length:Int)-2=(n:Int):=by rw[ig,T,hn'];omega
  refine⟨(dh rfl),λy p=>⟨(dh rfl),λz W=>?_⟩⟩;have l:=ab p (.lst [V.int 1]);have g:=ab W (.lst [V.int 0]);refine⟨_,rfl,a,_,rfl, .inr (eN.of (g _ _ (l _ _ h2))),_,_,rfl,rfl,?_⟩;refine⟨z,n,[.int 0],rfl,congrArg V.int O,ai,(by omega),(by omega),?_,λB u=>?_⟩;·rw[Int.toNat_natCast];exact bM (show 1*n<=4 by omega) (by decide)
  ·rw[Int.toNat_natCast];have J:=ab u (.lst (eE n [V.int 0]).flatten);refine⟨y,B,_,_,rfl,rfl,J _ _ (g _ _ ai),ai,?_,λY X=>?_⟩;·rw[len_rep];exact bM (show 1+n*1<=5 by omega) (by decide)
   ·exact q Y _ (((s2.trans l).trans g).trans (J.trans (ab X _))) ai
 have b:x∉(["rec","carry"]:List Str):=of_decide_eq_false (Bool.eq_false_iff.mpr b);rw[sW (va c b)]at q;refine⟨(dh rfl),λy p=>?_⟩;have l:=ab p (.lst [V.int 0]);refine⟨_,rfl,x,ps,_,k,rfl,Rep.mono (s2.trans l) r0,wf,λz Mv H4 _ g R Z=>?_⟩;have G:=Z.length;refine⟨z,_,rfl, .inl (bQ.of R),y,_,[.int 0],rfl,rfl,g _ _ ai,(by omega),(by omega),?_,λB u=>?_⟩;·rw[Int.toNat_natCast,G];exact bM (show 1*(aE x ps).length<=4 by omega) (by decide)
 ·rw[Int.toNat_natCast,G];exact q B _ ((s2.trans l).trans (g.trans (ab u _))) ai
mutual noncomputable def wide:D->Prop| .tup ds=>ds.length<=4000000/\qr ds|_=>True noncomputable def qr:List D->Prop|[]=>True|d::ds=>wide d/\qr ds end
theorem kj:∀{ds:List D}{i:Nat}{d:D},qr ds->ds[i]?=some d->wide d|[],_,_,_,e=>by simp at e|_::_,0,_,h,e=>by simp at e;subst e;exact h.1|_::ds,i+1,d,h,e=>kj (i:=i) h.2 (by simpa using e)
theorem gr:∀{ps:List D}{i:Nat}{p:D},ps[i]?=some p->depth p<=aF ps|[],_,_,e=>by simp at e|p::ps,0,_,e=>by simp at e;subst e;simp only[aF];omega|_::ps,i+1,p,e=>by have :=gr (ps:=ps) (i:=i) (by simpa using e);simp only[aF];omega
def iw(n:Nat):Sp:=λvs H Q _=>∃(d:D)(v u:V),vs=[v,u]/\Rep H d v/\Rep H d u/\wide d/\depth d<n/\∀H',aT H H'->Q (.bl true) H'
theorem lI:aU ["_law_told","_law_due"] ["_law_told","_law_due"] (ao b_):=⟨rfl,rfl,rfl,by decide+kernel,rfl,by decide+kernel,by decide+kernel⟩
theorem kL{n:Nat}(D:Df K mg "_law_alike" b_ ["_law_told","_law_due"])(M:Mg mg t)(y:cv P w K mg bX "_law_alike" (n) ["_law_told","_law_due"] (iw n)):cv P w K mg bX "_law_alike" (n+1) ["_law_told","_law_due"] (iw (n+1)):=by
 refine D.ok lI (λvs H Q E h=>?_) (λbase f cZ A outer s H vs Q E hr h=>?_);·obtain⟨d,v,u,rfl,_⟩:=h;rfl
 obtain⟨d,v,u,rfl,e,g,hw,hd,q⟩:=h;have L:=vF hr;refine⟨_,(aj (bG (pZ (bf cG rfl M.cn bS (aa (pv 1) (aa (nD M.gb eH rfl) ag)))) (aj (bG (L2.PW.pt (uX (uP (pZ (bf cG rfl M.cn bS (aa (pv 0) (aa (nD M.gb eH rfl) ag))))) (o9 (aD CL (bf ba rfl M.e_ dR (aa (pv 0) ag)) (bf ba rfl M.e_ dR (aa (pv 1) ag)) (aO _))))) (ak (aJ CC)) aZ) (ak (aJ (gk (zL L) (kN (N':=["_law_k","_law_told","_law_due"]) (own:=1) (fr:=[0,1]) rfl (lj (N:=["_law_told","_law_due"]) (sc:=ao b_) rfl rfl rfl (by decide+kernel)) (cz rfl M.dN (aa (bf ba rfl M.e_ dR (aa (pv 1) ag)) ag)) (fJ (by decide)) (λ_ _ _=>(cC (i:=0) (show List.Nodup (["_law_k","_law_told","_law_due"]:List Str)by decide+kernel) rfl (Or.inl rfl))) (λ_ _ _=>(kI (uP (pZ (bz y hr.m rfl bB (aa (bu (kA (K:=K)) (pv 1) (pv 0) (λ_ _=>rfl)) (aa (bu (kA (K:=K)) (pv 2) (pv 0) (λ_ _=>rfl)) ag))))))) (λ_ _ _=>(pv 0))) (bh ag) (aO _))))) aZ) (ak (aJ (uW (gk bN (bf cG rfl M.cn bS (aa (pv 0) (aa (nD M.vT qP rfl) ag))) (bf cG rfl M.cn bS (aa (pv 1) (aa (nD M.vT qP rfl) ag))) (aO _)) (tW (gk bN (pv 0) (pv 1) (aO _))))))),?_⟩;try dsimp only[tU,iG]
 refine ug ?_;intro _ _;refine⟨_,rfl,_,_,_,_,rfl,g.ty,rN _ d,_,rfl,?_⟩;refine cN (λc=>?_) (λc=>?_)
 ·cases d with
   |tup ds=>
    obtain⟨a,vs,rfl,ha,ra⟩:=id e;obtain⟨b,us,rfl,hb,rb⟩:=id g;have la:=ra.length;have lb:=rb.length;refine⟨_,rfl,_,_,_,_,rfl,e.ty,rN _ (.tup ds),_,rfl,dy ?_⟩;refine⟨_,rfl,a,_,rfl, .inr (eN.of ha),_,rfl,b,_,rfl, .inr (eN.of hb),rfl,_,rfl,?_⟩;rw[la,lb];refine C9 rfl ?_;have J:ds.length<=sizeLine:=bM hw.1 (by decide);have Me:=hw.1;refine⟨_,rfl,b,_,rfl, .inr (eN.of hb),_,rfl,(by show-(2^62)<=((us.length:Nat):Int);omega),(by show((us.length:Nat):Int)<2^62;omega),λp I=>jB us.length (λ_=>none) I (by rw[lb];exact J) (λi B hi s2=>⟨hi,?_⟩) λB s2 h2=>⟨zQ04 _,?_⟩⟩
    ·rintro x' Z⟨rfl,rfl⟩R R0 hR F;have l:(0:Int)+(i:Int)=((i:Nat):Int):=by omega
     obtain⟨j,k⟩:∃j,ds[i]?=some j:=⟨_,zQ03 (by omega)⟩;obtain⟨r,S,X⟩:=ra.get k;obtain⟨o,O,W⟩:=rb.get k;have G:depth j<n:=by have :=gr k;simp only[depth]at hd;omega
     refine⟨_,rfl,_,rfl,a,_,_,r,rfl,rfl,eN.of (s2 _ _ ha),(by rw[l];exact aV S),_,rfl,_,rfl,b,_,_,o,rfl,rfl,eN.of (s2 _ _ hb),(by rw[l];exact aV O),j,r,o,rfl,X.mono s2,W.mono s2,kj hw.2 k,G,λC Y=>⟨_,rfl,?_⟩⟩;exact dy (F C rfl Y)
    ·rw[iK]at h2;refine⟨by show 0<=sizeLine;decide,λU m=>⟨p,U,_,_,rfl,rfl,bQ.of (by rw[aG (aB h2 m)];exact h2),bQ.of ai,rfl,rfl,?_⟩⟩;exact q _ (s2.trans (ab m _))
   |_=>cases c
 ·have hb:∀b:Bool,decide (V.bl b=V.bl b)=true:=λb=>decide_eq_true rfl;refine⟨_,rfl,_,_,_,_,rfl,e.ty,uc _ d,_,rfl,_,_,_,_,rfl,g.ty,uc _ d,rfl,?_⟩;refine⟨true,by rw[hb],jj ⟨_,rfl,_,rfl,?_⟩⟩;have fin:∀z:V,ud z z=true->ud z z=true/\Q (.bl (decide (z=z))) H:=λz T=>⟨T,by rw[decide_eq_true rfl];exact q H (aT.refl H)⟩;cases d with|bj=>cases(show v=V.bj from e);cases(show u=V.bj from g);exact fin _ rfl|bl b=>cases(show v=V.bl b from e);cases(show u=V.bl b from g);exact fin _ rfl|int i=>cases(show v=V.int i from e);cases(show u=V.int i from g);exact fin _ rfl|str x=>cases(show v=V.str x from e.1);cases(show u=V.str x from g.1);exact fin _ rfl|tup ds=>exact absurd rfl c
theorem gX(D:Df K mg "_law_alike" b_ ["_law_told","_law_due"])(M:Mg mg t):∀n:Nat,cv P w K mg bX "_law_alike" (n) ["_law_told","_law_due"] (iw n)|0=>cv.never D λvs H Q E⟨d,v,u,_,_,_,_,h,_⟩=>absurd h (Nat.not_lt_zero _)|n+1=>kL D M (gX D M n)
end K12
end
section
namespace L3
open PySem PySem.Spec PyProof.Rows L2 KM
end L3
end
section
namespace L3
open PySem PySem.Spec PyProof.Rows L2
end L3
end
section
namespace L3
open PySem PySem.Spec PyProof.Rows L2 KM
end L3
end
section
namespace K12
open PySem L2 L3 KM PyProof.Rows
seal L2.PE L2.PS L2.jL L2.PT L2.PW L2.PA L2.PG L2.vG L2.PI L2.PC L2.PO L2.uY L2.PK L3.uv
variable{P:Program}{w:World}{K:PySem.W.Frag}{mg:Str->Option Value}{base:Heap}{t:vE}
mutual noncomputable def JF:D->List (List Nat)| .tup (.str x::ps)=>[]::(if cw x=true then[]else Ca 0 ps)|_=>[]noncomputable def Ca:Nat->List D->List (List Nat)|_,[]=>[]|i,d::ds=>(JF d).map (i::·)++Ca (i+1) ds end
theorem iq{a:D->Bool}{k:Bool}:∀{d:D},bL a k d=true->∃x ps,d= .tup (.str x::ps)| .tup (.str x::ps),_=>⟨x,ps,rfl⟩| .tup [],h=>by simp[bL]at h| .tup (.bj::_),h=>by simp[bL]at h| .tup (.bl _::_),h=>by simp[bL]at h| .tup (.int _::_),h=>by simp[bL]at h| .tup (.tup _::_),h=>by simp[bL]at h| .bj,h=>by simp[bL]at h| .bl _,h=>by simp[bL]at h| .int _,h=>by simp[bL]at h| .str _,h=>by simp[bL]at h
theorem qy{b:D->Bool}:∀{a:List Nat}{ps:List D}{i:Nat}{p:D},dQ b a ps=true->(∀c∈a,c=107\/c=116)->ps[i]?=some p->∃k,bL b k p=true
 |[],[],_,_,_,_,e=>by simp at e
 |[],_::_,_,_,h,_,_=>by simp[dQ]at h
 |_::_,[],_,_,h,_,_=>by simp[dQ]at h
 |c::a,q::ps,0,p,h,hc,e=>by
  simp at e;subst e;rw[aq,cu]at h;have h1:=h.1;unfold da at h1;rcases hc c dj with z|z;·rw[z,if_pos rfl]at h1;exact⟨true,h1⟩
  ·rw[z,if_neg (by decide),if_pos rfl]at h1;exact⟨false,h1⟩
 |c::a,q::ps,i+1,p,h,hc,e=>by rw[aq,cu]at h;exact qy (i:=i) h.2 (λc d=>hc c (d9 _ d)) (by simpa using e)
theorem l_{k:Bool}{x:Str}{ps:List D}{i:Nat}{p:D}(h:bL aR k (.tup (.str x::ps))=true)(e:(aE x ps)[i]?=some p):(∃k,bL aR k p=true)/\depth p<depth (.tup (.str x::ps)):=by
 obtain⟨s,h1,h2,h3,h4,h5,h6,a,_⟩:=bT h;unfold aE at e;split at e;·simp at e
 ·rename_i nl;refine⟨qy h3 (a (by simpa using nl)) e,?_⟩;have :=gr e;simp only[depth,aF];omega
theorem y8{k:Bool}{x:Str}{ps:List D}(h:bL aR k (.tup (.str x::ps))=true):(aE x ps).length<=4:=by
 obtain⟨s,h1,h2,h3,h4,h5,h6,a,_⟩:=bT h;unfold aE;split;·exact zQ08 _
 ·rw[<-h5];simpa using h4
structure Rt(d:D)(n:Nat):Prop where
 wf:∃k,bL aR k d=true
 dp:depth d<n
 ct:(JF d).length<=2000000
 Mo:n<=60
theorem u6{a:D->Bool}{b c:D}(d:bL a false b=true)(h1:bL a false c=true):bL a false (.tup [.str "app",b,c])=true:=by refine cf (w:="app") (s:="tt") (by decide+kernel) (by decide+kernel) ?_;rw[show(Str.ofString "tt").cps.toList=[116,116]by decide+kernel,aq,aq];simp[da,dQ,d,h1]
theorem pG{a:D->Bool}{b c:D}(d:bL a true b=true)(h1:bL a false c=true):bL a false (.tup [.str "fun",b,c])=true:=by refine cf (w:="fun") (s:="kt") (by decide+kernel) (by decide+kernel) ?_;rw[show(Str.ofString "kt").cps.toList=[107,116]by decide+kernel,aq,aq];simp[da,dQ,d,h1]
theorem my{a:D->Bool}{b c d:D}(e:bL a true b=true)(h1:bL a false c=true)(h2:bL a false d=true):bL a true (.tup [.str "same",b,c,d])=true:=by refine cf (w:="same") (s:="ktt") (by decide+kernel) (by decide+kernel) ?_;rw[show(Str.ofString "ktt").cps.toList=[107,116,116]by decide+kernel,aq,aq,aq];simp[da,dQ,e,h1,h2]
theorem A4{a:D->Bool}{b c d e:D}(f:bL a true b=true)(h1:bL a false c=true)(h2:bL a false d=true)(h3:bL a false e=true):bL a false (.tup [.str "rec",b,c,d,e])=true:=by refine cf (w:="rec") (s:="kttt") (by decide+kernel) (by decide+kernel) ?_;rw[show(Str.ofString "kttt").cps.toList=[107,116,116,116]by decide+kernel,aq,aq,aq,aq];simp[da,dQ,f,h1,h2,h3]
theorem vp{a:D->Bool}{b c d:D}(e:bL a true b=true)(h1:bL a false c=true)(h2:bL a false d=true):bL a false (.tup [.str "carry",b,c,d])=true:=by refine cf (w:="carry") (s:="ktt") (by decide+kernel) (by decide+kernel) ?_;rw[show(Str.ofString "ktt").cps.toList=[107,116,116]by decide+kernel,aq,aq,aq];simp[da,dQ,e,h1,h2]
theorem AN{a:D->Bool}{b c:D}(d:bL a true b=true)(h1:bL a true c=true):bL a true (.tup [.str "all",b,c])=true:=by refine cf (w:="all") (s:="kk") (by decide+kernel) (by decide+kernel) ?_;rw[show(Str.ofString "kk").cps.toList=[107,107]by decide+kernel,aq,aq];simp[da,dQ,d,h1]
theorem xT{a:D->Bool}{b c:D}(d:bL a true b=true)(h1:bL a true c=true):bL a true (.tup [.str "some",b,c])=true:=by refine cf (w:="some") (s:="kk") (by decide+kernel) (by decide+kernel) ?_;rw[show(Str.ofString "kk").cps.toList=[107,107]by decide+kernel,aq,aq];simp[da,dQ,d,h1]
theorem wc{b:D->Bool}{a:D}(c:bL b false a=true):bL b false (.tup [.str "first",a])=true:=by refine cf (w:="first") (s:="t") (by decide+kernel) (by decide+kernel) ?_;rw[show(Str.ofString "t").cps.toList=[116]by decide+kernel,aq];simp[da,dQ,c]
theorem u5{a:D->Bool}{b c:D}(d:bL a true b=true)(h1:bL a false c=true):bL a false (.tup [.str "never",b,c])=true:=by refine cf (w:="never") (s:="kt") (by decide+kernel) (by decide+kernel) ?_;rw[show(Str.ofString "kt").cps.toList=[107,116]by decide+kernel,aq,aq];simp[da,dQ,d,h1]
theorem eI{a:D->Bool}:bL a true (.tup [.str "nat"])=true:=by refine cf (w:="nat") (s:="") (by decide+kernel) (by decide+kernel) ?_;rw[show(Str.ofString "").cps.toList=[]by decide+kernel];simp[da,dQ]
theorem qX{a:D->Bool}:bL a false (.tup [.str "zero"])=true:=by refine cf (w:="zero") (s:="") (by decide+kernel) (by decide+kernel) ?_;rw[show(Str.ofString "").cps.toList=[]by decide+kernel];simp[da,dQ]
theorem aP{H:Hp}{p:Addr}{ds:List D}{vs:List V}(a:H p=none)(r:bF H ds vs):Rep (upd H p (.tup vs)) (.tup ds) (.ref p):=⟨p,vs,rfl,ai,r.mono (ab a _)⟩
theorem rs{H:Hp}{d:D}{v:V}{ds:List D}{vs:List V}(r:Rep H d v)(t:bF H ds vs):bF H (d::ds) (v::vs):=⟨v,vs,rfl,r,t⟩
theorem r0{H:Hp}:bF H [] []:=rfl
theorem jN{H:Hp}{x:Str}(h:x.length<=1000:=by decide):Rep H (.str x) (.str x):=⟨rfl,h⟩
theorem ri{H:Hp}{i:Int}:Rep H (.int i) (.int i):=rfl
structure Th(d:D)(dp kn:Nat):Prop where
 wf:bL aR false d=true
 dp:depth d<=dp
 kn:aM d<=kn
def lH:Sp:=λvs H Q _=>∃c:Int,vs=[.int c]/\∀(d:D)(v:V)(H':Hp),aT H H'->Rep H' d v->Th d 45 2000->Q v H'
def Wf(d:D):Prop:=∃k,bL aR k d=true
theorem yu{d:D}(h:Wf d):∃x ps k,d= .tup (.str x::ps)/\bL aR k d=true/\ps.length<=10:=by obtain⟨k,h⟩:=h;obtain⟨x,ps,rfl⟩:=iq h;obtain⟨a,_,_,_,h4,h5,_⟩:=bT h;refine⟨x,ps,k,rfl,h,?_⟩;rw[<-h5];exact bM (by simpa using h4) (by decide)
theorem cH:aU ["_law_cell","_law_thing","_law_k"] ["_law_cell"] (ao dM):=⟨rfl,rfl,rfl,by decide+kernel,rfl,by decide+kernel,by decide+kernel⟩
theorem pO(D:Df K mg "_law_tree" dM ["_law_cell"])(M:Mg mg t):cv P w K mg bX "_law_tree" (1) ["_law_cell"] lH:=by
 refine D.ok cH (λvs H Q E h=>?_) (λbase f cZ A outer s H vs Q E hr h=>?_);·obtain⟨c,rfl,_⟩:=h;rfl
 obtain⟨c,rfl,q⟩:=h;refine⟨_,(aj (aA (i:=1) cH.nd rfl (dH rfl) (aX (aa ah (aa (ar bo (pv 0) ae) ag)))) (aj (jv PassesOwn.never rfl (cz rfl M.dN (aa (ar cB ae (ar bo (ar bH (pv 0) ae) ae)) ag)) (cC (i:=2) cH.nd rfl (dH rfl)) (ak (bG (L2.PW.pt (AW (aD bN (pv 2) ae (aO _)) (xX (aD bN (ar bo (pv 0) ae) ae (aO _))))) (ak (aA (i:=1) cH.nd rfl (dH rfl) (aX (aa ah (aa (aX (aa ah ag)) (aa (pv 1) ag)))))) (ak (aA (i:=1) cH.nd rfl (dH rfl) (aX (aa ah (aa (pv 1) (aa (pv 1) ag))))))))) (ak (aJ (pv 1))))),?_⟩;try dsimp only[tU,O]
 refine EA ?_;intro _ _ _;refine⟨_,rfl,_,_,rfl,rfl,(by show(0:Int)<9;decide),(dh rfl),λk n=>?_⟩;have s1:=ab n (.tup [V.str "var", .int (c%9)]);have x:Rep (upd H k (.tup [V.str "var", .int (c%9)])) (.tup [.str "var", .int (c%9)]) (.ref k):=aP n (rs jN (rs ri r0));generalize upd H k (.tup [V.str "var", .int (c%9)])=J at s1 x⊢;have B:=Int.emod_nonneg c (show(9:Int)≠0 by decide);have N:=Int.emod_lt_of_pos c (show(0:Int)<9 by decide);have R:=Int.emod_nonneg (c/9) (show(5:Int)≠0 by decide);have S:=Int.emod_lt_of_pos (c/9) (show(0:Int)<5 by decide);obtain⟨m,hm⟩:∃m:Nat,4+c/9%5=(m:Int):=⟨(4+c/9%5).toNat,by omega⟩;have T:m<=8:=by omega
 refine⟨_,rfl,_,_,rfl,rfl,⟨by decide,by decide⟩,_,_,rfl,rfl,(by show(0:Int)<5;decide),_,_,rfl,rfl,_,rfl,(by omega),(by omega),?_⟩;have C:(4+c/9%5).toNat=m:=by omega
 rw[C];let z:Nat->L2.St->Hp->Prop:=(λi g H'=>∃(d:KM.D)(u:V)(kv:Option V),g=[some (.int c),some u,kv]/\Rep H' d u/\bL aR false d=true/\depth d<=i+1/\1<=aM d/\aM d+1<=2^(i+1)/\aT H H');refine jH m z ?_ ?_ ?_;·exact⟨_,_,none,rfl,x,iY B (by omega),by simp[depth,aF],by simp[aM,aK],by simp[aM,aK],s1⟩
 ·rintro i g L hi⟨d,u,kv,rfl,b,e,j,F,G,s2⟩;refine⟨hi,?_⟩;rintro W a⟨rfl,rfl⟩;have pw:2^(i+1+1)=2*2^(i+1):=by rw[Nat.pow_succ];omega
  have other:3<=sizeLine/\∀p,a p=none->(λi g H'=>∃(d:KM.D)(u:V)(kv:Option V),g=[some (.int c),some u,kv]/\Rep H' d u/\bL aR false d=true/\depth d<=i+1/\1<=aM d/\aM d+1<=2^(i+1)/\aT H H') (i+1) [some (.int c),some (V.ref p),some (V.int (0+(i:Int)))] (upd a p (.tup [V.str "app",u,u])):=⟨by decide,λp l=>⟨.tup [.str "app",d,d],_,_,rfl,aP l (rs jN (rs b (rs b r0))),u6 e e,vX (d7 vk (d7 j (d7 j vh))),by simp only[aM,aK];omega,by simp only[aM,aK];omega,s2.trans (ab l _)⟩⟩;refine⟨_,rfl,rfl,_,rfl,?_⟩;refine cN (λ_=>?_) (λ_=>dy ⟨_,rfl,_,rfl,other⟩);refine⟨_,rfl,_,_,rfl,rfl,(by show(0:Int)<2;decide),rfl,_,rfl,?_⟩;refine cN (λ_=>?_) (λ_=>⟨_,rfl,_,rfl,other⟩);refine⟨(dh rfl),λv o=>⟨_,rfl,(dh rfl),λU r=>?_⟩⟩;have y:=ab o (.tup [V.str "nat"]);have I:Rep (upd a v (.tup [V.str "nat"])) (.tup [.str "nat"]) (.ref v):=aP o (rs jN r0);exact⟨.tup [.str "fun", .tup [.str "nat"],d],_,_,rfl,aP r (rs jN (rs I (rs (b.mono y) r0))),pG eI e,vX (d7 vk (d7 (AZ (by omega)) (d7 j vh))),by simp only[aM,aK];omega,by simp only[aM,aK];omega,s2.trans (y.trans (ab r _))⟩
 ·rintro g a⟨d,u,kv,rfl,b,e,j,F,G,s2⟩;have pw:2^(m+1)<=2^9:=Nat.pow_le_pow_right (by decide) (by omega);exact⟨zQ04 _,_,rfl,q d u a s2 b ⟨e,by omega,by omega⟩⟩
noncomputable def je:List V:=[.int 1, .int 1, .int 2, .int 3, .int 2, .int 3]
def yw(c:Int)(a:Addr)(H:Hp)(i:Nat)(f:L2.St)(H':Hp):Prop:=∃(d:D)(u:V)(g:Int)(kv e b:Option V),f=[some (.int c),some (.ref a),some u,some (.int g),kv,e,b]/\Rep H' d u/\Rep H' (.tup [.str "nat"]) (.ref a)/\bL aR false d=true/\(depth d:Int)<=g/\g<=39/\1<=g/\aM d<=1+10*i/\aT H H'
section
variable{d sd:D}{i:Int}
theorem uS(h:1<=depth d)(a:depth sd<=1):depth (.tup [.str "fun", .tup [.str "nat"],d])<=depth d+1:=vX (d7 vk (d7 (AZ h) (d7 (zQ04 _) vh)))
theorem zD(h:1<=depth d)(a:depth sd<=1):depth (.tup [.str "app",sd,d])<=depth d+1:=vX (d7 vk (d7 (bM a h) (d7 (zQ04 _) vh)))
theorem wW(h:1<=depth d)(a:depth sd<=1):depth (.tup [.str "same", .tup [.str "nat"],d,sd])<=depth d+1:=vX (d7 vk (d7 (AZ h) (d7 (zQ04 _) (d7 (bM a h) vh))))
theorem uq(h:1<=depth d)(a:depth sd<=1):depth (.tup [.str "same", .tup [.str "nat"],sd,d])<=depth d+1:=vX (d7 vk (d7 (AZ h) (d7 (bM a h) (d7 (zQ04 _) vh))))
theorem z9(h:1<=depth d)(a:depth sd<=1):depth (.tup [.str "rec", .tup [.str "same", .tup [.str "nat"],d,sd], .tup [.str "zero"],sd, .tup [.str "var", .int i]])<=depth d+2:=vX (n:=depth d+1) (d7 vk (d7 (wW h a) (d7 (AZ (by omega)) (d7 (by omega) (d7 (J3 (by omega)) vh)))))
theorem ED{x:Str}(h:1<=depth d)(a:depth sd<=1):depth (.tup [.str x, .tup [.str "nat"], .tup [.str "same", .tup [.str "nat"],sd,d]])<=depth d+2:=vX (n:=depth d+1) (d7 vk (d7 (AZ (by omega)) (d7 (uq h a) vh)))
theorem uK(h:1<=depth d)(a:depth sd<=1):depth (.tup [.str "carry", .tup [.str "all", .tup [.str "nat"], .tup [.str "same", .tup [.str "nat"],sd,d]],sd, .tup [.str "zero"]])<=depth d+3:=vX (n:=depth d+2) (d7 vk (d7 (ED h a) (d7 (by omega) (d7 (AZ (by omega)) vh))))
theorem ur(h:1<=depth d)(a:depth sd<=1):depth (.tup [.str "first", .tup [.str "fun", .tup [.str "nat"],d]])<=depth d+2:=vX (n:=depth d+1) (d7 vk (d7 (uS h a) vh))
theorem vq(h:1<=depth d)(a:depth sd<=1):depth (.tup [.str "never", .tup [.str "some", .tup [.str "nat"], .tup [.str "same", .tup [.str "nat"],sd,d]],sd])<=depth d+3:=vX (n:=depth d+2) (d7 vk (d7 (ED h a) (d7 (by omega) vh)))
end
theorem aI:aU ["_law_cell","_law_nat","_law_thing","_law_deep_here","_law_k","_law_way","_law_side"] ["_law_cell"] (ao dW):=⟨rfl,rfl,rfl,by decide+kernel,rfl,by decide+kernel,by decide+kernel⟩
theorem oS(D:Df K mg "_law_deep" dW ["_law_cell"])(M:Mg mg t):cv P w K mg bX "_law_deep" (1) ["_law_cell"] lH:=by
 refine D.ok aI (λvs H Q E h=>?_) (λbase f cZ A outer s H vs Q E hr h=>?_);·obtain⟨c,rfl,_⟩:=h;rfl
 obtain⟨c,rfl,q⟩:=h;refine⟨_,(aj (aA (i:=1) aI.nd rfl (dH rfl) (aX (aa ah ag))) (aj (aA (i:=2) aI.nd rfl (dH rfl) (aX (aa ah (aa (ar bo (pv 0) ae) ag)))) (aj (aA (i:=3) aI.nd rfl (dH rfl) ae) (aj (jv PassesOwn.never rfl (cz rfl M.dN (aa ae ag)) (cC (i:=4) aI.nd rfl (dH rfl)) (aj (aA (i:=5) aI.nd rfl (dH rfl) (ar bo (ar cB (ar cB (ar bH (pv 0) ae) (ar vU (pv 4) (pv 4))) (ar bH (pv 4) ae)) ae)) (aj (aA (i:=6) aI.nd rfl (dH rfl) (aX (aa ah (aa (ar bo (ar cB (pv 0) (pv 4)) ae) ag)))) (ak (bG (aD vd (pv 3) (ar cB ae (ar bo (ar bH (pv 0) ae) ae)) (aO _)) (aj (aA (i:=3) aI.nd rfl (dH rfl) (ar cB (pv 3) (bu bW (bh (aa ae (aa ae (aa ae (aa ae (aa ae (aa ae ag))))))) (pv 5) (λ_ _=>rfl)))) (ak (bG (aD bN (pv 5) ae (aO _)) (ak (aA (i:=2) aI.nd rfl (dH rfl) (aX (aa ah (aa (pv 1) (aa (pv 2) ag)))))) (ak (bG (aD bN (pv 5) ae (aO _)) (ak (aA (i:=2) aI.nd rfl (dH rfl) (aX (aa ah (aa (pv 6) (aa (pv 2) ag)))))) (ak (bG (aD bN (pv 5) ae (aO _)) (ak (aA (i:=2) aI.nd rfl (dH rfl) (aX (aa ah (aa (aX (aa ah (aa (pv 1) (aa (pv 2) (aa (pv 6) ag))))) (aa (aX (aa ah ag)) (aa (pv 6) (aa (aX (aa ah (aa (pv 4) ag))) ag)))))))) (ak (bG (aD bN (pv 5) ae (aO _)) (ak (aA (i:=2) aI.nd rfl (dH rfl) (aX (aa ah (aa (aX (aa ah (aa (pv 1) (aa (aX (aa ah (aa (pv 1) (aa (pv 6) (aa (pv 2) ag))))) ag)))) (aa (pv 6) (aa (aX (aa ah ag)) ag))))))) (ak (bG (aD bN (pv 5) ae (aO _)) (ak (aA (i:=2) aI.nd rfl (dH rfl) (aX (aa ah (aa (aX (aa ah (aa (pv 1) (aa (pv 2) ag)))) ag))))) (ak (aA (i:=2) aI.nd rfl (dH rfl) (aX (aa ah (aa (aX (aa ah (aa (pv 1) (aa (aX (aa ah (aa (pv 1) (aa (pv 6) (aa (pv 2) ag))))) ag)))) (aa (pv 6) ag))))))))))))))))) aZ))))) (ak (aJ (pv 2))))))),?_⟩;try dsimp only[tU,iG]
 refine FG ?_;intro _ _ _ _ _;refine⟨(dh rfl),λb mB=>⟨_,rfl,_,_,rfl,rfl,(by show(0:Int)<45;decide),(dh rfl),λR nF=>?_⟩⟩;have s0:=ab mB (.tup [V.str "nat"]);have n0:Rep (upd H b (.tup [V.str "nat"])) (.tup [.str "nat"]) (.ref b):=aP mB (rs jN r0);have s1:=ab nF (.tup [V.str "var", .int (c%45)]);have r1:Rep (upd (upd H b (.tup [V.str "nat"])) R (.tup [V.str "var", .int (c%45)])) (.tup [.str "var", .int (c%45)]) (.ref R):=aP nF (rs jN (rs ri r0));have n1:=n0.mono s1;have Ji:=s0.trans s1;generalize upd (upd H b (.tup [V.str "nat"])) R (.tup [V.str "var", .int (c%45)])=H1 at Ji r1 n1⊢;have c0:=Int.emod_nonneg c (show(45:Int)≠0 by decide);have c9:=Int.emod_lt_of_pos c (show(0:Int)<45 by decide);refine⟨_,rfl,by decide,by decide,?_⟩;refine jH 38 (yw c b H) ?_ ?_ ?_;·exact⟨_,_,1,none,none,none,rfl,r1,n1,iY c0 (by omega),by simp[depth,aF],by decide,by decide,by simp[aM,aK],Ji⟩
 ·rintro i bc LI hi⟨d,u,g,kv,wv,sv,rfl,I,O,k,Z,Jx,g1,k2,s2⟩;refine⟨hi,?_⟩;rintro x' C⟨rfl,rfl⟩;have e0:(0:Int)+(i:Int)=((i:Nat):Int):=by omega
  rw[e0];refine⟨_,rfl,_,_,rfl,rfl,⟨by decide,by decide⟩,_,rfl,_,rfl,_,_,rfl,rfl, .inl ⟨by omega,by omega⟩,_,_,rfl,rfl,_,rfl,_,_,rfl,rfl,⟨by decide,by decide⟩,_,_,rfl,rfl,_,_,rfl,rfl,(by show(0:Int)<6;decide),?_⟩;obtain⟨j,v,ej,hj,hv,yB⟩:=uo (xs:=je) (m:=6) (c/7+(i:Int)*(i:Int)+(i:Int)/3) rfl (by decide);show kq 5 (V.int ((c/7+(i:Int)*(i:Int)+(i:Int)/3)%6)) _ _ _;rw[ej];refine⟨_,rfl,_,rfl,_,_,rfl,rfl,_,_,rfl,rfl,(by show(0:Int)<30;decide),(dh rfl),λl u0=>?_⟩;have f0:=Int.emod_nonneg (c+(i:Int)) (show(30:Int)≠0 by decide);have f9:=Int.emod_lt_of_pos (c+(i:Int)) (show(0:Int)<30 by decide);have g0:=Int.emod_nonneg (c/45) (show(18:Int)≠0 by decide);have g9:=Int.emod_lt_of_pos (c/45) (show(0:Int)<18 by decide);have J:=ab u0 (.tup [V.str "var", .int ((c+(i:Int))%30)]);have W:Rep (upd C l (.tup [V.str "var", .int ((c+(i:Int))%30)])) (.tup [.str "var", .int ((c+(i:Int))%30)]) (.ref l):=aP u0 (rs jN (rs ri r0));have r:bL aR false (.tup [.str "var", .int ((c+(i:Int))%30)])=true:=iY f0 (by omega);have dv:depth (.tup [.str "var", .int ((c+(i:Int))%30)])=1:=by simp[depth,aF]
  have KZ:aM (.tup [.str "var", .int ((c+(i:Int))%30)])=1:=by simp[aM,aK]
  have T:=I.mono J;have G:=O.mono J;have X:=s2.trans J;show kq 6 (V.ref l) _ (upd C l (.tup [V.str "var", .int ((c+(i:Int))%30)])) _;generalize upd C l (.tup [V.str "var", .int ((c+(i:Int))%30)])=N at X W T G⊢;generalize KM.D.tup [.str "var", .int ((c+(i:Int))%30)]=sd at W r dv KZ;clear J s2 I O;have z:1<=depth d:=by obtain⟨x,ps,rfl⟩:=iq k;simp only[depth];omega
  refine⟨_,rfl,_,rfl,_,_,rfl,rfl,⟨by decide,by decide⟩,_,_,rfl,rfl,(by show(0:Int)<18;decide),_,_,rfl,rfl,_,_,rfl,rfl,_,rfl,?_⟩;refine cN (λY=>?_) (λ_=>⟨d,u,g,_,_,_,rfl,T,G,k,Z,Jx,g1,by omega,X⟩);have Y:g<20+c/45%18:=of_decide_eq_true Y;have B:depth sd<=1:=by omega
  have fin:∀(m:Nat)(d':KM.D)(L:V)(H':Hp),m<=3->Rep H' d' L->bL aR false d'=true->depth d'<=depth d+m->aM d'<=aM d+10->aT N H'->yw c b H (i+1) [some (.int c),some (.ref b),some L,some (.int (g+(m:Nat))),some (.int (i:Nat)),some (.int (j:Nat)),some (.ref l)] H':=λm d' L H' hm r' w' h1 h2 s'=>⟨d',L,g+(m:Nat),_,_,_,rfl,r',G.mono s',w',by omega,by omega,by omega,by omega,X.trans s'⟩;refine⟨_,rfl,(dh rfl),λS zb=>⟨_,rfl,S,je,_,v,rfl,rfl,bQ.of ai,(by rw[<-ej];exact yB),?_⟩⟩;have e:=ab zb (.lst je);show yx _ _ _ (upd N S (.lst je)) _;have o:=W.mono e;have y:=T.mono e;have n:=G.mono e;generalize upd N S (.lst je)=H4 at e o y n⊢;rcases j with _|_|_|_|_|_|j;·cases hv;refine⟨_,_,rfl,rfl,_,rfl,rfl,_,rfl,jj ⟨_,rfl,_,rfl,(dh rfl),λp a=>?_⟩⟩;exact fin 1 (.tup [.str "fun", .tup [.str "nat"],d]) _ _ (by decide) (aP a (rs jN (rs n (rs y r0)))) (pG eI k) (uS (sd:=sd) z B) (by simp only[aM,aK];omega) (e.trans (ab a _))
  ·cases hv;refine⟨_,_,rfl,rfl,_,rfl,rfl,_,rfl,dy ⟨_,rfl,rfl,_,rfl,jj ⟨_,rfl,_,rfl,(dh rfl),λp a=>?_⟩⟩⟩;exact fin 1 (.tup [.str "app",sd,d]) _ _ (by decide) (aP a (rs jN (rs o (rs y r0)))) (u6 r k) (zD z B) (by simp only[aM,aK];omega) (e.trans (ab a _))
  ·cases hv;refine⟨_,_,rfl,rfl,_,rfl,rfl,_,rfl,dy ⟨_,rfl,rfl,_,rfl,dy ⟨_,rfl,rfl,_,rfl,jj ⟨_,rfl,_,rfl,_,rfl,(dh rfl),λF ha=>⟨(dh rfl),λpb hb=>⟨_,rfl,_,rfl,(dh rfl),λpc hc=>⟨(dh rfl),λp a=>?_⟩⟩⟩⟩⟩⟩⟩;have sa:=ab ha (.tup [V.str "same", .ref b,u, .ref l]);have ra:=aP ha (rs (jN (x:="same")) (rs n (rs y (rs o r0))));have sb:=ab hb (.tup [V.str "zero"]);have rb:=aP hb (rs (jN (x:="zero")) r0);have sc:=ab hc (.tup [V.str "var", .int ((i:Nat):Int)]);have U:=aP hc (rs (jN (x:="var")) (rs (ri (i:=((i:Nat):Int))) r0));exact fin 2 (.tup [.str "rec", .tup [.str "same", .tup [.str "nat"],d,sd], .tup [.str "zero"],sd, .tup [.str "var", .int ((i:Nat):Int)]]) _ _ (by decide) (aP a (rs jN (rs (ra.mono (sb.trans sc)) (rs (rb.mono sc) (rs (o.mono (sa.trans (sb.trans sc))) (rs U r0)))))) (A4 (my eI k r) qX r (iY (by omega) (by omega))) (z9 z B) (by simp only[aM,aK];omega) (e.trans (sa.trans (sb.trans (sc.trans (ab a _)))))
  ·cases hv;refine⟨_,_,rfl,rfl,_,rfl,rfl,_,rfl,dy ⟨_,rfl,rfl,_,rfl,dy ⟨_,rfl,rfl,_,rfl,dy ⟨_,rfl,rfl,_,rfl,jj ⟨_,rfl,_,rfl,_,rfl,_,rfl,(dh rfl),λF ha=>⟨(dh rfl),λpb hb=>⟨_,rfl,(dh rfl),λpc hc=>⟨(dh rfl),λp a=>?_⟩⟩⟩⟩⟩⟩⟩⟩;have sa:=ab ha (.tup [V.str "same", .ref b, .ref l,u]);have ra:=aP ha (rs (jN (x:="same")) (rs n (rs o (rs y r0))));have sb:=ab hb (.tup [V.str "all", .ref b, .ref F]);have rb:=aP hb (rs (jN (x:="all")) (rs (n.mono sa) (rs ra r0)));have sc:=ab hc (.tup [V.str "zero"]);have U:=aP hc (rs (jN (x:="zero")) r0);exact fin 3 (.tup [.str "carry", .tup [.str "all", .tup [.str "nat"], .tup [.str "same", .tup [.str "nat"],sd,d]],sd, .tup [.str "zero"]]) _ _ (by decide) (aP a (rs jN (rs (rb.mono sc) (rs (o.mono (sa.trans (sb.trans sc))) (rs U r0))))) (vp (AN eI (my eI r k)) r qX) (uK z B) (by simp only[aM,aK];omega) (e.trans (sa.trans (sb.trans (sc.trans (ab a _)))))
  ·cases hv;refine⟨_,_,rfl,rfl,_,rfl,rfl,_,rfl,dy ⟨_,rfl,rfl,_,rfl,dy ⟨_,rfl,rfl,_,rfl,dy ⟨_,rfl,rfl,_,rfl,dy ⟨_,rfl,rfl,_,rfl,jj ⟨_,rfl,_,rfl,(dh rfl),λF ha=>⟨(dh rfl),λp a=>?_⟩⟩⟩⟩⟩⟩⟩;have sa:=ab ha (.tup [V.str "fun", .ref b,u]);have ra:=aP ha (rs (jN (x:="fun")) (rs n (rs y r0)));exact fin 2 (.tup [.str "first", .tup [.str "fun", .tup [.str "nat"],d]]) _ _ (by decide) (aP a (rs jN (rs ra r0))) (wc (pG eI k)) (ur (sd:=sd) z B) (by simp only[aM,aK];omega) (e.trans (sa.trans (ab a _)))
  ·cases hv;refine⟨_,_,rfl,rfl,_,rfl,rfl,_,rfl,dy ⟨_,rfl,rfl,_,rfl,dy ⟨_,rfl,rfl,_,rfl,dy ⟨_,rfl,rfl,_,rfl,dy ⟨_,rfl,rfl,_,rfl,dy ⟨_,rfl,_,rfl,_,rfl,_,rfl,(dh rfl),λF ha=>⟨(dh rfl),λpb hb=>⟨_,rfl,(dh rfl),λp a=>?_⟩⟩⟩⟩⟩⟩⟩⟩;have sa:=ab ha (.tup [V.str "same", .ref b, .ref l,u]);have ra:=aP ha (rs (jN (x:="same")) (rs n (rs o (rs y r0))));have sb:=ab hb (.tup [V.str "some", .ref b, .ref F]);have rb:=aP hb (rs (jN (x:="some")) (rs (n.mono sa) (rs ra r0)));exact fin 3 (.tup [.str "never", .tup [.str "some", .tup [.str "nat"], .tup [.str "same", .tup [.str "nat"],sd,d]],sd]) _ _ (by decide) (aP a (rs jN (rs rb (rs (o.mono (sa.trans sb)) r0)))) (u5 (xT eI (my eI r k)) r) (vq z B) (by simp only[aM,aK];omega) (e.trans (sa.trans (sb.trans (ab a _))))
  ·exact absurd hj (by show¬(j+6<6);omega)
 ·rintro bc C⟨d,u,g,kv,wv,sv,rfl,I,O,k,Z,Jx,g1,k2,s2⟩;exact⟨zQ04 _,_,rfl,q d u C s2 I ⟨k,by omega,by omega⟩⟩
end K12
end
section
namespace SR
open PySem PySem.Spec PyProof.Rows
noncomputable abbrev kv(x:Keyed):Int:=numOf x.1
noncomputable abbrev IK(x:Keyed):Prop:=∃n t,x.1=Value.int n t
noncomputable def xM:Bool->Keyed->Array Keyed->Nat->Nat->Nat->StateT SortSt Sem (Option Nat):=sortPriv%PySem.Builtin.gallop
theorem av{xs:Array Keyed}{i:Nat}{x:Keyed}(e:xs[i]?=some x):K xs i=kv x:=by unfold K;rw[e]
section
variable{prog:Program}{w:World}{A:Around}{E:Value->Shared->Prop}{s:Shared}
theorem w_lt{st:SortSt}{x y:Keyed}{Q:Option Bool->SortSt->Prop}(c:kindOf st=oneType')(d:IK x)(f:IK y)(h:Q (some (decide (kv x<kv y))) st):wpS (model prog w) A E s (lt' x y) Q st:=by
 obtain⟨n,t,a⟩:=d;obtain⟨m,u,b⟩:=f;rw[lt'_eq];refine wpS_bind (wpS_get ?_);rw[c,keyLt'_oneType];have e:decide (kv x<kv y)=decide (n<m):=by unfold kv;rw[a,b];rfl
 rw[e]at h;rw[a,b];exact wpS_bind (wpS_lift (wpAny_attempt (oneLt_int ⟨rfl,wpS_pure h⟩)))
theorem aH{st:SortSt}{xs:Array Keyed}{i:Nat}{x:Keyed}{Q:Keyed->SortSt->Prop}(e:xs[i]?=some x)(h:Q x st):wpS (model prog w) A E s (elem' xs i) Q st:=by rw[elem'_eq,e];exact wpS_pure h
noncomputable def gq(left:Bool)(k:Int)(xs:Array Keyed)(i:Nat):Bool:=if left then decide (K xs i<k)else !decide (k<K xs i)
theorem cL{st:SortSt}{left:Bool}{g:Keyed}{xs:Array Keyed}{base n hint:Nat}{Q:Option Nat->SortSt->Prop}(y:kindOf st=oneType')(B:IK g)(L:∀i,i<n->∃x,xs[base+i]?=some x/\IK x)(J:∀i j,i<=j->j<n->K xs (base+i)<=K xs (base+j))(hh:hint<n)(h:∀k,k<=n->(∀i,i<k->gq left (kv g) xs (base+i)=true)->(∀i,k<=i->i<n->gq left (kv g) xs (base+i)=false)->Q (some k) st):wpS (model prog w) A E s (xM left g xs base n hint) Q st:=by
 have mono:∀i j,i<=j->j<n->gq left (kv g) xs (base+j)=true->gq left (kv g) xs (base+i)=true:=by intro i j a b c;have :=J i j a b;unfold gq at c⊢;cases left<;>simp at c⊢<;>omega
 have q:∀i j,i<=j->j<n->gq left (kv g) xs (base+i)=false->gq left (kv g) xs (base+j)=false:=by intro i j a b c;cases d:gq left (kv g) xs (base+j)with|false=>rfl|true=>rw[mono i j a b d]at c;cases c
 let F:Nat->StateT SortSt Sem (Option Bool):=λi=>do let x<-elem' xs (base+i);if left=true then lt' x g else do let r<-lt' g x;pure (Option.map (λx=>!x) r)
 have hb:∀{i:Nat}{Q:Option Bool->SortSt->Prop},i<n->Q (some (gq left (kv g) xs (base+i))) st->wpS (model prog w) A E s (F i) Q st:=by intro i Q hi hq;obtain⟨x,e,ix⟩:=L i hi;have G:=av e;unfold gq at hq;rw[G]at hq;refine wpS_bind (aH e ?_);cases left with|true=>exact w_lt y ix B hq|false=>exact wpS_bind (w_lt y B ix (wpS_pure hq))
 have v:∀(f:Nat->Option (Option Nat)×Nat×Nat->StateT SortSt Sem (ForInStep (Option (Option Nat)×Nat×Nat))),(∀x l r(o:ForInStep (Option (Option Nat)×Nat×Nat)->SortSt->Prop),l<=r->r<=n->(l=r->o (.done (none,l,r)) st)->(l<r->gq left (kv g) xs (base+(l+(r-l)/2))=true->o (.yield (none,l+(r-l)/2+1,r)) st)->(l<r->gq left (kv g) xs (base+(l+(r-l)/2))=false->o (.yield (none,l,l+(r-l)/2)) st)->wpS (model prog w) A E s (f x (none,l,r)) o st)->∀lo hi,lo<=hi->hi<=n->(∀i,i<lo->gq left (kv g) xs (base+i)=true)->(∀i,hi<=i->i<n->gq left (kv g) xs (base+i)=false)->wpS (model prog w) A E s (forIn [:n] (none,lo,hi) f) (λc aw=>aw=st/\∃l,c=(none,l,l)/\l<=n/\(∀i,i<l->gq left (kv g) xs (base+i)=true)/\(∀i,l<=i->i<n->gq left (kv g) xs (base+i)=false)) st:=by
  intro f H lo hi h1 h2 h3 h4;refine wpS_forRange (I:=λx c aw=>aw=st/\∃l r,c=(none,l,r)/\l<=r/\r<=n/\r-l<=n-x/\(∀i,i<l->gq left (kv g) xs (base+i)=true)/\(∀i,r<=i->i<n->gq left (kv g) xs (base+i)=false)) ?_ ?_ ⟨rfl,lo,hi,rfl,h1,h2,by omega,h3,h4⟩
  ·rintro x c aw _ C⟨rfl,l,r,rfl,a1,a2,a3,a4,a5⟩;refine H x l r _ a1 a2 (λz=>?_) (λz e=>?_) λz e=>?_;·subst z;exact⟨rfl,l,rfl,a2,a4,a5⟩
   ·exact⟨rfl,_,_,rfl,by omega,a2,by omega,λi hi=>mono i _ (by omega) (by omega) e,a5⟩
   ·exact⟨rfl,_,_,rfl,by omega,by omega,by omega,a4,λi hi hn=>q _ i hi hn e⟩
  ·rintro c aw⟨rfl,l,r,rfl,a1,a2,a3,a4,a5⟩;have :l=r:=by omega
   subst this;exact⟨rfl,l,rfl,a2,a4,a5⟩
 refine wpS_bind (hb hh ?_);cases e:gq left (kv g) xs (base+hint)with
  |true=>
   dsimp only;rw[if_pos rfl];refine wpS_bind (wpS_mono (wpS_forRange (I:=λx c aw=>aw=st/\∃l r,c=(none,l,r)/\l<r/\x+1<=r/\hint+l<n/\gq left (kv g) xs (base+(hint+l))=true) (Q:=λc aw=>aw=st/\∃l r,c=(none,l,r)/\l<r/\hint+l<n/\gq left (kv g) xs (base+(hint+l))=true/\(r<n-hint->gq left (kv g) xs (base+(hint+r))=false)) ?_ ?_ ⟨rfl,0,1,rfl,by omega,by omega,by omega,e⟩) ?_)
   ·rintro x c aw _ C⟨rfl,l,r,rfl,a1,a2,a3,a4⟩;dsimp only;by_cases m:r>=n-hint;·rw[if_pos m];exact wpS_pure ⟨rfl,l,r,rfl,a1,a3,a4,λz=>by omega⟩
    ·rw[if_neg m];refine wpS_bind (hb (by omega) ?_);cases e:gq left (kv g) xs (base+(hint+r))with|true=>exact wpS_pure ⟨rfl,_,_,rfl,by omega,by omega,by omega,e⟩|false=>exact wpS_pure ⟨rfl,l,r,rfl,a1,a3,a4,λ_=>e⟩
   ·rintro c aw⟨rfl,l,r,rfl,a1,a2,a3,a4⟩;exact⟨rfl,l,r,rfl,a1,a3,a4,λz=>by omega⟩
   ·rintro c aw⟨rfl,l,r,rfl,a1,a3,a4,a5⟩;refine wpS_bind (wpS_mono (v _ (λx l r o D p q1 q2 q3=>?_) (hint+l+1) (hint+min r (n-hint)) (by omega) (by omega) (λi hi=>mono i _ (by omega) a3 a4) λi hi hn=>q (hint+r) i (by omega) hn (a5 (by omega))) ?_)
    ·dsimp only;by_cases m:l>=r;·rw[if_pos m];exact wpS_pure (q1 (by omega))
     ·rw[if_neg m];refine wpS_bind (hb (by omega) ?_);cases e:gq left (kv g) xs (base+(l+(r-l)/2))with|true=>exact wpS_pure (q2 (by omega) e)|false=>exact wpS_pure (q3 (by omega) e)
    ·rintro c aw⟨rfl,l,rfl,p,t,u⟩;exact wpS_pure (h l p t u)
  |false=>
   dsimp only;rw[if_neg (by decide)];refine wpS_bind (wpS_mono (wpS_forRange (I:=λx c aw=>aw=st/\∃l r,c=(none,l,r)/\l<r/\x+1<=r/\l<=hint/\gq left (kv g) xs (base+(hint-l))=false) (Q:=λc aw=>aw=st/\∃l r,c=(none,l,r)/\l<r/\l<=hint/\gq left (kv g) xs (base+(hint-l))=false/\(r<hint+1->gq left (kv g) xs (base+(hint-r))=true)) ?_ ?_ ⟨rfl,0,1,rfl,by omega,by omega,by omega,e⟩) ?_)
   ·rintro x c aw _ C⟨rfl,l,r,rfl,a1,a2,a3,a4⟩;dsimp only;by_cases m:r>=hint+1;·rw[if_pos m];exact wpS_pure ⟨rfl,l,r,rfl,a1,a3,a4,λz=>by omega⟩
    ·rw[if_neg m];refine wpS_bind (hb (by omega) ?_);cases e:gq left (kv g) xs (base+(hint-r))with|false=>exact wpS_pure ⟨rfl,_,_,rfl,by omega,by omega,by omega,e⟩|true=>exact wpS_pure ⟨rfl,l,r,rfl,a1,a3,a4,λ_=>e⟩
   ·rintro c aw⟨rfl,l,r,rfl,a1,a2,a3,a4⟩;exact⟨rfl,l,r,rfl,a1,a3,a4,λz=>by omega⟩
   ·rintro c aw⟨rfl,l,r,rfl,a1,a3,a4,a5⟩;refine wpS_bind (wpS_mono (v _ (λx l r o D p q1 q2 q3=>?_) (hint+1-min r (hint+1)) (hint-l) (by omega) (by omega) (λi hi=>mono i (hint-r) (by omega) (by omega) (a5 (by omega))) λi hi hn=>q _ i hi hn a4) ?_)
    ·dsimp only;by_cases m:l>=r;·rw[if_pos m];exact wpS_pure (q1 (by omega))
     ·rw[if_neg m];refine wpS_bind (hb (by omega) ?_);cases e:gq left (kv g) xs (base+(l+(r-l)/2))with|true=>exact wpS_pure (q2 (by omega) e)|false=>exact wpS_pure (q3 (by omega) e)
    ·rintro c aw⟨rfl,l,rfl,p,t,u⟩;exact wpS_pure (h l p t u)
end
noncomputable def kl(xs:Array Keyed):List Int:=xs.toList.map kv
structure SB(a₀:Array Keyed)(p:Array (Nat×Nat×Nat))(st:SortSt):Prop where
 perm:(arrOf st).Perm a₀
 kind:kindOf st=oneType'
 failed:failedOf st=none
 pend:pendingOf st=p
variable{a₀:Array Keyed}{p:Array (Nat×Nat×Nat)}
theorem SB.size{st:SortSt}(h:SB a₀ p st):(arrOf st).size=a₀.size:=h.perm.size_eq
theorem SB.setArr{st:SortSt}(h:SB a₀ p st){xs:Array Keyed}(a:xs.Perm (arrOf st)):SB a₀ p (setArr st xs):=⟨a.trans h.perm,h.kind,h.failed,h.pend⟩
theorem SB.at{st:SortSt}(h:SB a₀ p st)(a:IntKeys a₀){i:Nat}(hi:i<a₀.size):∃x,(arrOf st)[i]?=some x/\IK x:=by
 have b:i<(arrOf st).size:=by rw[h.size];exact hi
 exact⟨_,getElem?_pos _ i b,a _ ((Array.perm_iff_toList_perm.mp h.perm).mem_iff.mp (by simp))⟩
theorem yX{xs:Array Keyed}{i:Nat}(hi:i<xs.size):(kl xs)[i]?=some (K xs i):=by unfold kl;rw[ic,Array.getElem?_toList,getElem?_pos xs i hi];rw[av (getElem?_pos xs i hi)];rfl
theorem wR{xs a:Array Keyed}(h:xs.Perm a):(kl xs).Perm (kl a):=(Array.perm_iff_toList_perm.mp h).map kv
theorem SB.ne{st:SortSt}(h:SB a₀ p st)(hd:(kl a₀).Nodup){i j:Nat}(hi:i<a₀.size)(hj:j<a₀.size)(c:i≠j):K (arrOf st) i≠K (arrOf st) j:=by have hn:(kl (arrOf st)).Nodup:=(wR h.perm).nodup_iff.mpr hd;have a:=yX (xs:=arrOf st) (i:=i) (by rw[h.size];exact hi);have b:=yX (xs:=arrOf st) (i:=j) (by rw[h.size];exact hj);intro e;obtain⟨d,f1⟩:=List.getElem?_eq_some_iff.mp a;obtain⟨f,f2⟩:=List.getElem?_eq_some_iff.mp b;exact c ((List.getElem_inj hn).mp (f1.trans (e.trans f2.symm)))
def dg(xs:Array Keyed)(lo hi:Nat):Prop:=∀i j,lo<=i->i<=j->j<hi->K xs i<=K xs j
def Ie(xs:Array Keyed)(lo hi:Nat):Prop:=∀i j,lo<=i->i<=j->j<hi->K xs j<=K xs i
section
variable{prog:Program}{w:World}{A:Around}{E:Value->Shared->Prop}{s:Shared}
theorem gC{st:SortSt}{i j:Nat}{Q:Option Bool->SortSt->Prop}(a:SB a₀ p st)(d:IntKeys a₀)(hi:i<a₀.size)(hj:j<a₀.size)(h:Q (some (decide (K (arrOf st) i<K (arrOf st) j))) st):wpS (model prog w) A E s (ltAt' i j) Q st:=by obtain⟨x,b,i1⟩:=a.at d hi;obtain⟨y,c,i2⟩:=a.at d hj;rw[av b,av c]at h;rw[ltAt'_eq];exact wpS_bind (wpS_get (wpS_bind (aH b (wpS_bind (aH c (w_lt a.kind i1 i2 h))))))
theorem vI{st:SortSt}{lo n ok:Nat}{Q:Bool->SortSt->Prop}(v:IntKeys a₀)(hn:lo+n<=a₀.size)(bD:ok<=n)(y:SB a₀ p st)(F:dg (arrOf st) lo (lo+ok))(h:∀aw,SB a₀ p aw->dg (arrOf aw) lo (lo+n)->(∀i,i<lo->K (arrOf aw) i=K (arrOf st) i)->Q true aw):wpS (model prog w) A E s (binarySort' lo n ok) Q st:=by
 refine wpS_bind (wpS_mono (wpS_forRange (I:=λk c aw=>c=(none,())/\SB a₀ p aw/\dg (arrOf aw) lo (lo+min k n)/\∀i,i<lo->K (arrOf aw) i=K (arrOf st) i) (Q:=λc aw=>c=(none,())/\SB a₀ p aw/\dg (arrOf aw) lo (lo+n)/\∀i,i<lo->K (arrOf aw) i=K (arrOf st) i) ?_ ?_ ?_) ?_)
 ·rintro k c aw G H⟨rfl,d,b,g⟩;rw[show min k n=k by omega]at b;refine wpS_bind (wpS_mono (wpS_forRange (I:=λx c a=>a=aw/\∃l r,c=(none,l,r)/\l<=r/\r<=k/\r-l<=k-x/\(∀i,i<l->K (arrOf aw) (lo+i)<=K (arrOf aw) (lo+k))/\(∀i,r<=i->i<k->K (arrOf aw) (lo+k)<K (arrOf aw) (lo+i))) (Q:=λc a=>a=aw/\∃l r,c=(none,l,r)/\l<=k/\(∀i,i<l->K (arrOf aw) (lo+i)<=K (arrOf aw) (lo+k))/\(∀i,l<=i->i<k->K (arrOf aw) (lo+k)<K (arrOf aw) (lo+i))) ?_ ?_ ?_) ?_)
  ·rintro x c a _ L⟨rfl,l,r,rfl,D,o,hm,f,e⟩;dsimp only;by_cases t:l>=r
   ·rw[if_pos t];have :l=r:=by omega
    subst this;exact wpS_pure ⟨rfl,l,l,rfl,o,f,e⟩
   ·rw[if_neg t];refine wpS_bind (gC d v (by omega) (by omega) ?_);by_cases m:K (arrOf a) (lo+k)<K (arrOf a) (lo+(l+r)/2);·simp only[m,decide_true,if_true];refine wpS_pure ⟨rfl,l,(l+r)/2,rfl,by omega,by omega,by omega,f,λi h1 h2=>?_⟩;exact Int.lt_of_lt_of_le m (b _ _ (by omega) (by omega) (by omega))
    ·simp only[m,decide_false,eW,if_false];refine wpS_pure ⟨rfl,(l+r)/2+1,r,rfl,by omega,by omega,by omega,λi h1=>?_,e⟩;exact Int.le_trans (b (lo+i) (lo+(l+r)/2) (by omega) (by omega) (by omega)) (Int.not_lt.mp m)
  ·rintro c a⟨rfl,l,r,rfl,D,o,hm,f,e⟩;have :l=r:=by omega
   subst this;exact⟨rfl,l,l,rfl,o,f,e⟩
  ·exact⟨rfl,0,k,rfl,by omega,by omega,by omega,λi hi=>by omega,λi h1 h2=>by omega⟩
  ·rintro c a⟨rfl,l,r,rfl,J,f,e⟩;show wpS _ _ _ _ (do moveDown' (lo+k) (lo+l);pure (ForInStep.yield (none,()))) _ _;rw[moveDown'_eq];have B:lo+k<(arrOf a).size:=by rw[d.size];omega
   have q:∀j,K (bubble (arrOf a) (lo+k) (lo+k-(lo+l))) j=if j=lo+l then K (arrOf a) (lo+k)else if lo+l<j/\j<=lo+k then K (arrOf a) (j-1)else K (arrOf a) j:=by intro j;rw[K_bubble B (by omega),show lo+k-(lo+k-(lo+l))=lo+l by omega]
   refine wpS_bind (wpS_modify (wpS_pure ⟨rfl,d.setArr (bubble_perm _ _ _),?_,λi hi=>?_⟩))
   ·rw[show min (k+1) n=k+1 by omega];have C:∀i,lo<=i->i<lo+l->K (arrOf a) i<=K (arrOf a) (lo+k):=λi h1 h2=>by have :=f (i-lo) (by omega);rwa[show lo+(i-lo)=i by omega]at this
    have z:∀i,lo+l<=i->i<lo+k->K (arrOf a) (lo+k)<K (arrOf a) i:=λi h1 h2=>by have :=e (i-lo) (by omega) (by omega);rwa[show lo+(i-lo)=i by omega]at this
    intro i j hl u hj;show K (bubble (arrOf a) (lo+k) _) i<=K (bubble (arrOf a) (lo+k) _) j;rw[q,q];repeat' split
    all_goals first|(exfalso;omega)|exact Int.le_refl _|exact C _ (by omega) (by omega)|exact Int.le_of_lt (z _ (by omega) (by omega))|exact b _ _ (by omega) (by omega) (by omega)
   ·show K (bubble (arrOf a) (lo+k) _) i=_;rw[q,if_neg (by omega),if_neg (by omega)];exact g i hi
 ·rintro c aw⟨hc,d,b,g⟩;rw[show min (max (max ok 1) n) n=n by omega]at b;exact⟨hc,d,b,g⟩
 ·refine⟨rfl,y,λi j hl u hj=>?_,λ_ _=>rfl⟩;by_cases h1:ok=0
  ·have :i=j:=by omega
   subst this;exact Int.le_refl _
  ·exact F i j hl u (by omega)
 ·rintro c aw⟨rfl,d,b,g⟩;exact wpS_pure (h aw d b g)
theorem yp{st:SortSt}{lo a b:Nat}{f:Nat->Option (Option Nat)×Nat->StateT SortSt Sem (ForInStep (Option (Option Nat)×Nat))}(u:IntKeys a₀)(hn:lo+b<=a₀.size)(ha:1<=a)(g:a<=b)(v:SB a₀ p st)(k:∀x n(e:ForInStep (Option (Option Nat)×Nat)->SortSt->Prop),1<=n->n<b->(K (arrOf st) (lo+n)<K (arrOf st) (lo+n-1)->e (.done (none,n)) st)->(¬K (arrOf st) (lo+n)<K (arrOf st) (lo+n-1)->e (.yield (none,n+1)) st)->wpS (model prog w) A E s (f x (none,n)) e st)(r:dg (arrOf st) lo (lo+a)):wpS (model prog w) A E s (forIn [a:b] (none,a) f) (λc aw=>aw=st/\∃n,c=(none,n)/\a<=n/\n<=b/\dg (arrOf st) lo (lo+n)/\(n=b\/K (arrOf st) (lo+n)<K (arrOf st) (lo+n-1))) st:=by
 refine wpS_forRange (I:=λx c aw=>aw=st/\c=(none,x)/\dg (arrOf st) lo (lo+x)) ?_ ?_ ⟨rfl,rfl,r⟩
 ·rintro x c aw h t⟨rfl,rfl,d⟩;refine k x x _ (by omega) t (λhl=>⟨rfl,x,rfl,h,by omega,d, .inr hl⟩) λhl=>⟨rfl,rfl,λi j hi m hj=>?_⟩;by_cases q:j<lo+x;·exact d i j hi m q
  ·have o:j=lo+x:=by omega
   subst o;by_cases l:i=lo+x;·subst l;exact Int.le_refl _
   ·exact Int.le_trans (d i (lo+x-1) hi (by omega) (by omega)) (Int.not_lt.mp hl)
 ·rintro c aw⟨rfl,rfl,d⟩;rw[show max a b=b by omega]at d⊢;exact⟨rfl,b,rfl,g,zQ04 _,d, .inl rfl⟩
theorem uE{xs:Array Keyed}{i j:Nat}(hj:j<=xs.size)(k:Nat):K (mirror xs i j ((j-i)/2)) k=if i<=k/\k<j then K xs (i+j-1-k)else K xs k:=K_mirror hj k
theorem y_{st:SortSt}{lo d:Nat}{Q:Option Nat->SortSt->Prop}(e:IntKeys a₀)(hd:(kl a₀).Nodup)(hn:lo+d<=a₀.size)(h1:1<=d)(b:SB a₀ p st)(h:∀m aw,SB a₀ p aw->1<=m->m<=d->dg (arrOf aw) lo (lo+m)->(∀i,i<lo->K (arrOf aw) i=K (arrOf st) i)->Q (some m) aw):wpS (model prog w) A E s (countRun' lo d) Q st:=by
 have one:∀st:SortSt,dg (arrOf st) lo (lo+1):=λst i j hl g hj=>by
  have :i=j:=by omega
  subst this;exact Int.le_refl _
 refine wpS_bind (wpS_mono (yp e hn (zQ04 1) h1 b (λx n z B C q1 q2=>?_) (one st)) ?_)
 ·refine wpS_bind (gC b e (by omega) (by omega) ?_);by_cases hl:K (arrOf st) (lo+n)<K (arrOf st) (lo+n-1);·simp only[hl,decide_true,if_true];exact wpS_pure (q1 hl)
  ·simp only[hl,decide_false,eW,if_false];exact wpS_pure (q2 hl)
 rintro c aw⟨rfl,n,rfl,v,y,r,S⟩;dsimp only;by_cases q:n=d;·rw[if_pos (by simpa using q)];exact wpS_pure (h n _ b v y r λ_ _=>rfl)
 rw[if_neg (by simpa using q)];have hlt:=S.resolve_left q;by_cases u:n>1
 ·rw[if_pos u];refine wpS_bind (gC b e (by omega) (by omega) ?_);have ne:=b.ne hd (i:=lo) (j:=lo+n-1) (by omega) (by omega) (by omega);have le:=r lo (lo+n-1) (by omega) (by omega) (by omega);have hl:K (arrOf aw) lo<K (arrOf aw) (lo+n-1):=by omega
  simp only[hl,decide_true,if_true];exact wpS_pure (h n _ b v y r λ_ _=>rfl)
 rw[if_neg u];have R:n=1:=by omega
 subst R;refine wpS_bind (wpS_lift (wpAny_rule ⟨rfl,?_⟩));refine wpS_bind (wpS_mono (wpS_forRange (I:=λx c a=>a=aw/\c=(none,x,0)/\Ie (arrOf aw) lo (lo+x)) (Q:=λc a=>a=aw/\∃m,c=(none,m,0)/\2<=m/\m<=d/\Ie (arrOf aw) lo (lo+m)) ?_ ?_ ⟨rfl,rfl,?_⟩) ?_)
 ·rintro x c a G W⟨rfl,rfl,f⟩;dsimp only;refine wpS_bind (gC b e (by omega) (by omega) ?_);by_cases hl:K (arrOf a) (lo+x)<K (arrOf a) (lo+x-1)
  ·simp only[hl,decide_true,if_true];refine wpS_pure ⟨rfl,rfl,λi j hi g hj=>?_⟩;by_cases M:j<lo+x;·exact f i j hi g M
   ·have L:j=lo+x:=by omega
    subst L;by_cases o:i=lo+x;·subst o;exact Int.le_refl _
    ·exact Int.le_trans (Int.le_of_lt hl) (f i (lo+x-1) hi (by omega) (by omega))
  ·simp only[hl,decide_false,eW,if_false];refine wpS_bind (gC b e (by omega) (by omega) ?_);have ne:=b.ne hd (i:=lo+x) (j:=lo+x-1) (by omega) (by omega) (by omega);have O:K (arrOf a) (lo+x-1)<K (arrOf a) (lo+x):=by omega
   simp only[O,decide_true,if_true];exact wpS_pure ⟨rfl,x,rfl,G,by omega,f⟩
 ·rintro c a⟨rfl,rfl,f⟩;rw[show max (1+1) d=d by omega]at f⊢;exact⟨rfl,d,rfl,by omega,zQ04 _,f⟩
 ·intro i j hl g hj;by_cases o:i=j;·subst o;exact Int.le_refl _
  ·have D:i=lo:=by omega
   have F:j=lo+1:=by omega
   subst D;subst F;exact Int.le_of_lt hlt
 rintro c a⟨rfl,m,rfl,V,P,J⟩;dsimp only;rw[if_neg (by omega)];have t:lo+m<=(arrOf a).size:=by rw[b.size];omega
 refine wpS_bind (wpS_reverse ?_);have l:SB a₀ p (setArr a (mirror (arrOf a) lo (lo+m) ((lo+m-lo)/2))):=b.setArr (mirror_perm _ _ _ _);have H:∀i,i<lo->K (arrOf (setArr a (mirror (arrOf a) lo (lo+m) ((lo+m-lo)/2)))) i=K (arrOf a) i:=λi hi=>by show K (mirror (arrOf a) lo (lo+m) _) i=_;rw[uE t,if_neg (by omega)]
 refine wpS_bind (wpS_mono (yp e hn (by omega) P l (λx n z B C q1 q2=>?_) ?_) ?_)
 ·refine wpS_bind (gC l e (by omega) (by omega) ?_);by_cases hl:K (arrOf (setArr a (mirror (arrOf a) lo (lo+m) ((lo+m-lo)/2)))) (lo+n)<K (arrOf (setArr a (mirror (arrOf a) lo (lo+m) ((lo+m-lo)/2)))) (lo+n-1);·simp only[hl,decide_true,if_true];exact wpS_pure (q1 hl)
  ·simp only[hl,decide_false,eW,if_false];exact wpS_pure (q2 hl)
 ·intro i j hl g hj;show K (mirror (arrOf a) lo (lo+m) _) i<=K (mirror (arrOf a) lo (lo+m) _) j;rw[uE t,uE t,if_pos (by omega),if_pos (by omega)];exact J _ _ (by omega) (by omega) (by omega)
 ·rintro c X⟨rfl,k,rfl,U,N,T,_⟩;exact wpS_pure (h k _ l (by omega) N T H)
end
end SR
end
section
namespace SR
open PySem PySem.Spec PyProof.Rows
structure IL(R:Keyed->Keyed->Prop)(out ca ra cb rb:List Keyed):Prop where
 perm:out.Perm (ca++cb)
 E3:out.Pairwise R
 low:∀x,x∈out->∀y,y∈ra\/y∈rb->R x y
variable{R:Keyed->Keyed->Prop}{out ca ra cb rb:List Keyed}
theorem IL.sym(h:IL R out ca ra cb rb):IL R out cb rb ca ra:=⟨h.perm.trans List.perm_append_comm,h.E3,λx a y b=>h.low x a y b.symm⟩
theorem IL.move(h:IL R out ca ra cb rb){m d c:List Keyed}(e:ra=m++d)(f:c=ca++m)(g:ra.Pairwise R)(hm:∀x,x∈m->∀y,y∈rb->R x y):IL R (out++m) c d cb rb:=by
 subst e f;obtain⟨s1,s2,i⟩:=List.pairwise_append.mp g;refine⟨?_,List.pairwise_append.mpr ⟨h.E3,s1,λx a y b=>h.low x a y (.inl (kY _ b))⟩,λx a y b=>?_⟩;·refine(h.perm.append_right m).trans ?_;rw[jR,jR];exact List.Perm.append_left ca List.perm_append_comm
 ·rcases List.mem_append.mp a with a|a;·exact h.low x a y (b.imp (λz=>fh _ z) id)
  ·exact b.elim (λz=>i x a y z) (λz=>hm x a y z)
noncomputable abbrev Le(x y:Keyed):Prop:=kv x<=kv y
noncomputable abbrev Ge(x y:Keyed):Prop:=kv y<=kv x
theorem lS{xs:Array Keyed}{i:Nat}{x:Keyed}(h:x∈xs.toList.drop i):∃j,i<=j/\j<xs.size/\xs[j]?=some x:=by obtain⟨k,a,e⟩:=lX h;rw[List.getElem_drop]at e;rw[List.length_drop,Array.length_toList]at a;exact⟨i+k,by omega,by omega,by rw[<-Array.getElem?_toList,<-e];exact zQ03 _⟩
theorem uI{xs:Array Keyed}{i:Nat}{x:Keyed}(h:x∈xs.toList.take i):∃j,j<i/\j<xs.size/\xs[j]?=some x:=by obtain⟨k,a,e⟩:=lX h;rw[List.getElem_take]at e;rw[List.length_take,Array.length_toList]at a;exact⟨k,by omega,by omega,by rw[<-Array.getElem?_toList,<-e];exact zQ03 _⟩
theorem vK{xs:Array Keyed}(h:dg xs 0 xs.size):xs.toList.Pairwise Le:=by rw[List.pairwise_iff_getElem];intro i j hi hj a;rw[Array.length_toList]at hi hj;have :=h i j (zQ08 _) (Nat.le_of_lt a) hj;rw[av (getElem?_pos xs i hi),av (getElem?_pos xs j hj)]at this;exact this
theorem zF{xs:Array Keyed}(h:xs.toList.Pairwise Le):dg xs 0 xs.size:=by
 intro i j _ a hj;by_cases e:i=j;·subst e;exact Int.le_refl _
 ·rw[List.pairwise_iff_getElem]at h;have :=h i j (by rw[Array.length_toList];omega) (by rw[Array.length_toList];omega) (by omega);rw[av (getElem?_pos xs i (by omega)),av (getElem?_pos xs j (by omega))];exact this
theorem gm(xs:Array Keyed)(i k:Nat):(xs.extract i (i+k)).toList=(xs.toList.drop i).take k:=by rw[Array.toList_extract,List.extract_eq_take_drop,Nat.add_sub_cancel_left]
theorem i7(l:List Keyed)(i k:Nat):l.drop i=(l.drop i).take k++l.drop (i+k):=by rw[<-List.drop_drop];exact(List.take_append_drop k (l.drop i)).symm
theorem vZ(l:List Keyed)(i k:Nat):l.take (i+k)=l.take i++(l.drop i).take k:=List.take_add
def Lo(a b out:Array Keyed)(c d:Nat):Prop:=IL Le out.toList (a.toList.take c) (a.toList.drop c) (b.toList.take d) (b.toList.drop d)
variable{a b o:Array Keyed}{ia ib na nb:Nat}
theorem Lo.sym(h:Lo a b o ia ib):Lo b a o ib ia:=IL.sym h
theorem Lo.more(h:Lo a b o ia ib)(ha:dg a 0 a.size)(k:Nat)(hm:∀i j,ia<=i->i<ia+k->i<a.size->ib<=j->j<b.size->K a i<=K b j):Lo a b (o++a.extract ia (ia+k)) (ia+k) ib:=by
 unfold Lo;rw[Array.toList_append,gm];refine IL.move h (i7 _ _ _) (vZ _ _ _) ((vK ha).sublist (List.drop_sublist _ _)) λx d y g=>?_;obtain⟨j,m,n,f⟩:=lS g;obtain⟨i,i1,i2,c⟩:=lS (List.mem_of_mem_take d);have hi:∃i,ia<=i/\i<ia+k/\i<a.size/\a[i]?=some x:=by obtain⟨q,hq,e⟩:=lX d;rw[List.getElem_take,List.getElem_drop]at e;rw[List.length_take,List.length_drop,Array.length_toList]at hq;exact⟨ia+q,by omega,by omega,by omega,by rw[<-Array.getElem?_toList,<-e];exact zQ03 _⟩
 obtain⟨i,i1,i2,l,c⟩:=hi;have :=hm i j i1 i2 l m n;rw[av c,av f]at this;exact this
theorem oE{x:Keyed}(e:a[ia]?=some x):o.push x=o++a.extract ia (ia+1):=by apply Array.toList_inj.mp;rw[Array.toList_push,Array.toList_append,gm];obtain⟨h,e⟩:=Array.getElem?_eq_some_iff.mp e;rw[List.drop_eq_getElem_cons (by rw[Array.length_toList];exact h)];simp[e]
theorem Lo.one(h:Lo a b o ia ib)(ha:dg a 0 a.size){x:Keyed}(e:a[ia]?=some x)(hm:∀j,ib<=j->j<b.size->K a ia<=K b j):Lo a b (o.push x) (ia+1) ib:=by
 rw[oE e];exact h.more ha 1 λi j h1 h2 _ h3 h4=>by
  have :i=ia:=by omega
  subst this;exact hm j h3 h4
def Mg(a b r:Array Keyed):Prop:=r.toList.Perm (a.toList++b.toList)/\r.toList.Pairwise Le
theorem rD(xs:Array Keyed)(i:Nat)(h:i<=xs.size):xs.extract i=xs.extract i (i+(xs.size-i)):=by rw[show i+(xs.size-i)=xs.size by omega]
theorem Lo.end_(h:Lo a b o ia ib)(ha:dg a 0 a.size)(hb:dg b 0 b.size)(h1:ia<=a.size)(h2:ib<=b.size)(hm:∀i j,ia<=i->i<a.size->ib<=j->j<b.size->K a i<=K b j):Mg a b (o++a.extract ia++b.extract ib):=by have q1:=h.more ha (a.size-ia) λi j e _ f c d=>hm i j e f c d;have q2:=(q1.sym.more hb (b.size-ib) λi j _ _ _ c d=>by omega).sym;rw[<-rD _ _ h1,<-rD _ _ h2,show ia+(a.size-ia)=a.size by omega,show ib+(b.size-ib)=b.size by omega]at q2;refine⟨?_,q2.E3⟩;have :=q2.perm;rwa[List.take_of_length_le (by rw[Array.length_toList];exact zQ04 _),List.take_of_length_le (by rw[Array.length_toList];exact zQ04 _)]at this
theorem Mg.sym{r:Array Keyed}(h:Mg a b r):Mg b a r:=⟨h.1.trans List.perm_append_comm,h.2⟩
def Hi(a b out:Array Keyed)(na nb:Nat):Prop:=IL Ge out.toList (a.toList.drop na).reverse (a.toList.take na).reverse (b.toList.drop nb).reverse (b.toList.take nb).reverse
theorem Hi.sym(h:Hi a b o na nb):Hi b a o nb na:=IL.sym h
theorem Hi.more(h:Hi a b o na nb)(ha:dg a 0 a.size)(m:Nat)(c:m<=na)(hm:∀i j,m<=i->i<na->i<a.size->j<nb->j<b.size->K b j<=K a i):Hi a b (o++(a.extract m na).reverse) m nb:=by
 unfold Hi;have em:(a.extract m na).toList=(a.toList.take na).drop m:=by rw[Array.toList_extract,List.extract_eq_drop_take];rw[List.drop_take]
 have s:a.toList.take na=a.toList.take m++(a.toList.take na).drop m:=by have :=List.take_append_drop m (a.toList.take na);rw[List.take_take,Nat.min_eq_left c]at this;exact this.symm
 have t:a.toList.drop m=(a.toList.take na).drop m++a.toList.drop na:=by
  have :=congrArg (List.drop m) (List.take_append_drop na a.toList);rw[<-this,List.drop_append];congr 1;by_cases g:na<=a.toList.length;·rw[List.length_take,Nat.min_eq_left g,Nat.sub_eq_zero_of_le c,List.drop_zero]
  ·have z:List.drop na a.toList=[]:=List.drop_eq_nil_of_le (by omega);rw[z,List.drop_nil]
 rw[Array.toList_append,Array.toList_reverse,em];refine IL.move h (m:=((a.toList.take na).drop m).reverse) ?_ ?_ ?_ λx k y l=>?_;·rw[<-List.reverse_append,<-s]
 ·rw[<-List.reverse_append,<-t]
 ·exact List.pairwise_reverse.mpr ((vK ha).sublist (List.take_sublist _ _))
 ·obtain⟨j,p,r,f⟩:=uI (List.mem_reverse.mp l);have hi:∃i,m<=i/\i<na/\i<a.size/\a[i]?=some x:=by obtain⟨q,hq,e⟩:=lX (List.mem_reverse.mp k);rw[List.getElem_drop,List.getElem_take]at e;rw[List.length_drop,List.length_take,Array.length_toList]at hq;exact⟨m+q,by omega,by omega,by omega,by rw[<-Array.getElem?_toList,<-e];exact zQ03 _⟩
  obtain⟨i,i1,i2,n,d⟩:=hi;have :=hm i j i1 i2 n p r;rw[av d,av f]at this;exact this
theorem Hi.one(h:Hi a b o (na+1) nb)(ha:dg a 0 a.size){x:Keyed}(e:a[na]?=some x)(hm:∀j,j<nb->j<b.size->K b j<=K a na):Hi a b (o.push x) na nb:=by
 have q:=h.more ha na (Nat.le_succ _) λi j h1 h2 _ h3 h4=>by
  have :i=na:=by omega
  subst this;exact hm j h3 h4
 have c:o.push x=o++(a.extract na (na+1)).reverse:=by
  have :a.extract na (na+1)=#[x]:=by have :=oE (o:=#[]) e;rw[Array.empty_append]at this;exact this.symm
  rw[this];simp
 rw[c];exact q
theorem Hi.end_(h:Hi a b o na nb)(ha:dg a 0 a.size)(hb:dg b 0 b.size)(hm:∀i j,i<na->i<a.size->j<nb->j<b.size->K a i<=K b j):Mg a b (a.extract 0 na++b.extract 0 nb++o.reverse):=by
 have q1:=(h.sym.more hb 0 (zQ08 _) λi j _ d f c g=>hm j i c g d f).sym;have q2:=q1.more ha 0 (zQ08 _) λi j _ _ _ c _=>by omega
 have e:a.extract 0 na++b.extract 0 nb++o.reverse=(o++(b.extract 0 nb).reverse++(a.extract 0 na).reverse).reverse:=by simp[Array.append_assoc]
 rw[e];constructor;·rw[Array.toList_reverse];refine(List.reverse_perm _).trans (q2.perm.trans ?_);rw[List.drop_zero,List.drop_zero];exact(List.reverse_perm _).append (List.reverse_perm _)
 ·rw[Array.toList_reverse];exact List.pairwise_reverse.mpr q2.E3
end SR
end
section
namespace SR
open PySem PySem.Spec PyProof.Rows
noncomputable def ua:Array Keyed->Array Keyed->StateT SortSt Sem (Array Keyed):=sortPriv%PySem.Builtin.mergeLo
structure jK(st aw:SortSt):Prop where
 kind:kindOf aw=kindOf st
 arr:arrOf aw=arrOf st
 pend:pendingOf aw=pendingOf st
 failed:failedOf aw=failedOf st
theorem jK.refl(st:SortSt):jK st st:=⟨rfl,rfl,rfl,rfl⟩
theorem jK.dS{st aw:SortSt}(h:jK st aw)(g:Nat):jK st (SortSt.mk' (kindOf aw) (arrOf aw) (pendingOf aw) g (failedOf aw)):=⟨h.kind,h.arr,h.pend,h.failed⟩
variable{a b o:Array Keyed}{ia ib na nb:Nat}
theorem AU{k:Int}{xs:Array Keyed}{i:Nat}(h:gq false k xs i=true):K xs i<=k:=by unfold gq at h;simp at h;exact h
theorem u9{k:Int}{xs:Array Keyed}{i:Nat}(h:gq false k xs i=false):k<=K xs i:=by unfold gq at h;simp at h;omega
theorem tX{k:Int}{xs:Array Keyed}{i:Nat}(h:gq true k xs i=true):K xs i<=k:=by unfold gq at h;simp at h;omega
theorem oA{k:Int}{xs:Array Keyed}{i:Nat}(h:gq true k xs i=false):k<=K xs i:=by unfold gq at h;simp at h;exact h
theorem at_of(c:∀x,x∈a.toList->IK x){i:Nat}(h:i<a.size):∃x,a[i]?=some x/\IK x:=⟨_,getElem?_pos a i h,c _ (by simp)⟩
section
variable{prog:Program}{w:World}{A:Around}{E:Value->Shared->Prop}{s:Shared}
theorem w_ite{σ d:Type}{c:Prop}[Decidable c]{m n:StateT σ Sem d}{Q:d->σ->Prop}{st:σ}(h1:c->wpS (model prog w) A E s m Q st)(h2:¬c->wpS (model prog w) A E s n Q st):wpS (model prog w) A E s (if c then m else n) Q st:=by
 by_cases hc:c;·rw[if_pos hc];exact h1 hc
 ·rw[if_neg hc];exact h2 hc
theorem tN{st:SortSt}{Q:Array Keyed->SortSt->Prop}(hk:kindOf st=oneType')(ha:dg a 0 a.size)(hb:dg b 0 b.size)(Z:∀x,x∈a.toList->IK x)(W:∀x,x∈b.toList->IK x)(h1:1<=a.size)(h2:1<=b.size)(hF:∀i,i<a.size->K b 0<=K a i)(hL:∀j,j<b.size->K b j<=K a (a.size-1))(h:∀r aw,jK st aw->Mg a b r->Q r aw):wpS (model prog w) A E s (ua a b) Q st:=by
 have last:∀{o:Array Keyed}{i j:Nat},Lo a b o i j->i+1=a.size->j<=b.size->Mg a b (o++b.extract j++a.extract i):=λ{o i j}hl e hj=>(hl.sym.end_ hb ha hj (by omega) λx y _ m Y N=>by
  have :y=a.size-1:=by omega
  subst this;exact hL x m).sym;have T:∀{o:Array Keyed}{i j:Nat},Lo a b o i j->j=b.size->i<=a.size->Mg a b (o++a.extract i++b.extract j):=λ{o i j}hl e hi=>hl.end_ ha hb hi (by omega) λx y _ _ Y N=>by omega
 have fW:∀{o:Array Keyed}{i j:Nat},Lo a b o i j->i=a.size->j<=b.size->Mg a b (o++a.extract i++b.extract j):=λ{o i j}hl e hj=>hl.end_ ha hb (by omega) hj λx y n m _ _=>by omega
 refine wpS_bind (wpS_lift (wpAny_rule ⟨rfl,?_⟩));obtain⟨x0,e0,i0⟩:=at_of W (i:=0) (by omega);refine wpS_bind (aH e0 ?_);have L0:Lo a b #[x0] 0 1:=by have :Lo b a #[] 0 0:=⟨by simp,List.Pairwise.nil,λx hx=>by simp at hx⟩;exact(this.one hb e0 λj _ hj=>hF j hj).sym
 by_cases n:1=b.size;·rw[if_pos (by simpa using n)];exact wpS_pure (h _ _ (jK.refl _) (T L0 n (zQ08 _)))
 rw[if_neg (by simpa using n)];by_cases m:0+1=a.size;·rw[if_pos (by simpa using m)];exact wpS_pure (h _ _ (jK.refl _) (last L0 m h2))
 rw[if_neg (by simpa using m)];refine wpS_bind (wpS_get ?_);refine wpS_bind (wpS_mono (wpS_forRange (I:=λx c aw=>jK st aw/\∃o i j g,c=(none,o,i,j,g)/\Lo a b o i j/\i+1<a.size/\j<b.size/\x+1<=i+j) (Q:=λc aw=>jK st aw/\∃r z,c=(some r,z)/\Mg a b r) ?_ ?_ ⟨jK.refl _,_,_,_,_,rfl,L0,by omega,by omega,by omega⟩) ?_);rotate_left;·rintro c aw⟨_,o,i,j,g,rfl,_,q1,q2,q3⟩;omega
 ·rintro c aw⟨hs,r,z,rfl,hm⟩;exact wpS_pure (h _ _ hs hm)
 rintro x c CK _ hx⟨tQ,o1,i1,j1,g1,rfl,L1,p1,p2,p3⟩;dsimp only;refine wpS_bind (wpS_mono (wpS_forRange (I:=λ_ c aw=>aw=CK/\∃o i j q r,c=(none,o,i,j,q,r)/\Lo a b o i j/\i+1<a.size/\j<b.size/\x+1<=i+j) (Q:=λc aw=>aw=CK/\((∃r z,c=(some r,z)/\Mg a b r)\/∃o i j q r,c=(none,o,i,j,q,r)/\Lo a b o i j/\i+1<a.size/\j<b.size/\x+1<=i+j)) ?_ ?_ ⟨rfl,_,_,_,_,_,rfl,L1,p1,p2,p3⟩) ?_)
 ·rintro y c aw _ hy⟨rfl,o,i,j,q,r,rfl,L,q1,q2,q3⟩;dsimp only;obtain⟨u,G,iu⟩:=at_of W q2;obtain⟨v,p,X⟩:=at_of Z (i:=i) (by omega);refine wpS_bind (aH G (wpS_bind (aH p (wpS_bind (w_lt (by rw[tQ.kind,hk]) iu X ?_)))));by_cases hl:kv u<kv v
  ·simp only[hl,decide_true,if_true];refine wpS_bind (aH G ?_);have F:Lo a b (o.push u) i (j+1):=(L.sym.one hb G λf n m=>by have :=ha i f (zQ08 _) n m;rw[av p]at this;rw[av G];omega).sym;by_cases H:j+1=b.size;·rw[if_pos (by simpa using H)];exact wpS_pure ⟨rfl, .inl ⟨_,_,rfl,T F H (by omega)⟩⟩
   rw[if_neg (by simpa using H)];split;·exact wpS_pure ⟨rfl, .inr ⟨_,_,_,_,_,rfl,F,q1,by omega,by omega⟩⟩
   ·exact wpS_pure ⟨rfl,_,_,_,_,_,rfl,F,q1,by omega,by omega⟩
  ·simp only[hl,decide_false,eW,if_false];refine wpS_bind (aH p ?_);have F:Lo a b (o.push v) (i+1) j:=L.one ha p λd n m=>by have :=hb j d (zQ08 _) n m;rw[av G]at this;rw[av p];omega
   by_cases H:i+1+1=a.size;·rw[if_pos (by simpa using H)];exact wpS_pure ⟨rfl, .inl ⟨_,_,rfl,last F H (by omega)⟩⟩
   rw[if_neg (by simpa using H)];split;·exact wpS_pure ⟨rfl, .inr ⟨_,_,_,_,_,rfl,F,by omega,q2,by omega⟩⟩
   ·exact wpS_pure ⟨rfl,_,_,_,_,_,rfl,F,by omega,q2,by omega⟩
 ·rintro c aw⟨rfl,z⟩;exact⟨rfl, .inr z⟩
 rintro c bq⟨rfl,⟨r,z,rfl,hm⟩|⟨o2,i2,j2,q,r,rfl,L2,r1,r2,r3⟩⟩;·exact wpS_pure ⟨tQ,_,_,rfl,hm⟩
 dsimp only;refine wpS_bind (wpS_lift (wpAny_rule ⟨rfl,?_⟩));refine wpS_bind (wpS_mono (wpS_forRange (I:=λy c aw=>jK st aw/\∃o i j g q r,c=(none,o,i,j,g,q,r)/\Lo a b o i j/\i+1<a.size/\j<b.size/\x+1+y<=i+j) (Q:=λc aw=>jK st aw/\((∃r z,c=(some r,z)/\Mg a b r)\/∃o i j g q r,c=(none,o,i,j,g,q,r)/\Lo a b o i j/\i+1<a.size/\j<b.size/\x+2<=i+j)) ?_ ?_ ⟨tQ,_,_,_,_,_,_,rfl,L2,r1,r2,r3⟩) ?_)
 ·rintro y c aw _ hy⟨l,o,i,j,g,q,r,rfl,L,q1,q2,q3⟩;dsimp only;obtain⟨u,G,iu⟩:=at_of W q2;refine w_ite (λhg=>?_) λhg=>?_;all_goals
   refine wpS_bind (wpS_modify ?_);refine wpS_bind (aH G ?_);refine wpS_bind (cL (by rw[<-hk];exact l.kind) iu (λf oN=>at_of Z (by omega)) (λf d n m=>ha _ _ (zQ08 _) (by omega) (by omega)) (by omega) λk EO DD Cg=>?_);dsimp only;have M:Lo a b (o++a.extract i (i+k)) (i+k) j:=L.more ha k λf d n m Y N U=>by have D:=AU (DD (f-i) (by omega));rw[show i+(f-i)=f by omega]at D;have V:=hb j d (zQ08 _) N U;rw[av G]at V;omega
   have zi:∀f,i+k<=f->f<a.size->K b j<=K a f:=λf n m=>by have D:=u9 (Cg (f-i) (by omega) (by omega));rw[show i+(f-i)=f by omega]at D;rw[av G];exact D
   rcases(show k>0\/k=0 by omega)with kp|kz
   ·rw[if_pos kp];by_cases H:i+k+1=a.size;·rw[if_pos (by simpa using H)];exact wpS_pure ⟨l.dS _, .inl ⟨_,_,rfl,last M H (by omega)⟩⟩
    rw[if_neg (by simpa using H)];by_cases d2:i+k=a.size;·rw[if_pos (by simpa using d2)];exact wpS_pure ⟨l.dS _, .inl ⟨_,_,rfl,fW M d2 (by omega)⟩⟩
    rw[if_neg (by simpa using d2)];have hlt:i+k+1<a.size:=by omega
    generalize o++a.extract i (i+k)=o3 at M⊢;have mU:i<=i+k:=by omega
    generalize i+k=S at M zi hlt mU⊢;refine wpS_bind (aH G ?_);have F:Lo a b (o3.push u) S (j+1):=(M.sym.one hb G λf n m=>zi f n m).sym;by_cases O:j+1=b.size;·rw[if_pos (by simpa using O)];exact wpS_pure ⟨l.dS _, .inl ⟨_,_,rfl,T F O (by omega)⟩⟩
    rw[if_neg (by simpa using O)];obtain⟨v,p,X⟩:=at_of Z (i:=S) (by omega);refine wpS_bind (aH p ?_);refine wpS_bind (cL (by rw[<-hk];exact l.kind) X (λf oN=>at_of W (by omega)) (λf d n m=>hb _ _ (zQ08 _) (by omega) (by omega)) (by omega) λC u4 oR pT=>?_);dsimp only;have J:Lo a b (o3.push u++b.extract (j+1) (j+1+C)) S (j+1+C):=(F.sym.more hb C λd f n m Y N U=>by have D:=tX (oR (d-(j+1)) (by omega));rw[show j+1+(d-(j+1))=d by omega]at D;have V:=ha S f (zQ08 _) N U;rw[av p]at V;omega).sym;have R:∀d,j+1+C<=d->d<b.size->K a S<=K b d:=λd n m=>by have D:=oA (pT (d-(j+1)) (by omega) (by omega));rw[show j+1+(d-(j+1))=d by omega]at D;rw[av p];exact D
    rcases(show C>0\/C=0 by omega)with zZ|Ao
    ·rw[if_pos zZ];by_cases P:j+1+C=b.size;·rw[if_pos (by simpa using P)];exact wpS_pure ⟨l.dS _, .inl ⟨_,_,rfl,T J P (by omega)⟩⟩
     rw[if_neg (by simpa using P)];refine wpS_bind (aH p ?_);have t:=J.one ha p R;by_cases B:S+1+1=a.size;·rw[if_pos (by simpa using B)];exact wpS_pure ⟨l.dS _, .inl ⟨_,_,rfl,last t B (by omega)⟩⟩
     rw[if_neg (by simpa using B)];split;·exact wpS_pure ⟨l.dS _, .inr ⟨_,_,_,_,_,_,rfl,t,by omega,by omega,by omega⟩⟩
     ·exact wpS_pure ⟨l.dS _,_,_,_,_,_,_,rfl,t,by omega,by omega,by omega⟩
    ·subst Ao;rw[if_neg (by omega)];rw[Nat.add_zero,Array.extract_eq_empty_of_le (by omega),Array.append_empty]at J;refine wpS_bind (aH p ?_);have t:=J.one ha p (by rw[Nat.add_zero]at R;exact R);by_cases B:S+1+1=a.size;·rw[if_pos (by simpa using B)];exact wpS_pure ⟨l.dS _, .inl ⟨_,_,rfl,last t B (by omega)⟩⟩
     rw[if_neg (by simpa using B)];split;·exact wpS_pure ⟨l.dS _, .inr ⟨_,_,_,_,_,_,rfl,t,by omega,by omega,by omega⟩⟩
     ·exact wpS_pure ⟨l.dS _,_,_,_,_,_,_,rfl,t,by omega,by omega,by omega⟩
   ·subst kz;rw[if_neg (by omega)];rw[Nat.add_zero]at zi;rw[Nat.add_zero,Array.extract_eq_empty_of_le (by omega),Array.append_empty]at M;have hlt:=q1;have mU:i<=i:=zQ04 _;refine wpS_bind (aH G ?_);have F:Lo a b (o.push u) i (j+1):=(M.sym.one hb G λf n m=>zi f n m).sym;by_cases O:j+1=b.size;·rw[if_pos (by simpa using O)];exact wpS_pure ⟨l.dS _, .inl ⟨_,_,rfl,T F O (by omega)⟩⟩
    rw[if_neg (by simpa using O)];obtain⟨v,p,X⟩:=at_of Z (i:=i) (by omega);refine wpS_bind (aH p ?_);refine wpS_bind (cL (by rw[<-hk];exact l.kind) X (λf oN=>at_of W (by omega)) (λf d n m=>hb _ _ (zQ08 _) (by omega) (by omega)) (by omega) λC u4 oR pT=>?_);dsimp only;have J:Lo a b (o.push u++b.extract (j+1) (j+1+C)) i (j+1+C):=(F.sym.more hb C λd f n m Y N U=>by have D:=tX (oR (d-(j+1)) (by omega));rw[show j+1+(d-(j+1))=d by omega]at D;have V:=ha i f (zQ08 _) N U;rw[av p]at V;omega).sym;have R:∀d,j+1+C<=d->d<b.size->K a i<=K b d:=λd n m=>by have D:=oA (pT (d-(j+1)) (by omega) (by omega));rw[show j+1+(d-(j+1))=d by omega]at D;rw[av p];exact D
    rcases(show C>0\/C=0 by omega)with zZ|Ao
    ·rw[if_pos zZ];by_cases P:j+1+C=b.size;·rw[if_pos (by simpa using P)];exact wpS_pure ⟨l.dS _, .inl ⟨_,_,rfl,T J P (by omega)⟩⟩
     rw[if_neg (by simpa using P)];refine wpS_bind (aH p ?_);have t:=J.one ha p R;by_cases B:i+1+1=a.size;·rw[if_pos (by simpa using B)];exact wpS_pure ⟨l.dS _, .inl ⟨_,_,rfl,last t B (by omega)⟩⟩
     rw[if_neg (by simpa using B)];split;·exact wpS_pure ⟨l.dS _, .inr ⟨_,_,_,_,_,_,rfl,t,by omega,by omega,by omega⟩⟩
     ·exact wpS_pure ⟨l.dS _,_,_,_,_,_,_,rfl,t,by omega,by omega,by omega⟩
    ·subst Ao;rw[if_neg (by omega)];rw[Nat.add_zero,Array.extract_eq_empty_of_le (by omega),Array.append_empty]at J;refine wpS_bind (aH p ?_);have t:=J.one ha p (by rw[Nat.add_zero]at R;exact R);by_cases B:i+1+1=a.size;·rw[if_pos (by simpa using B)];exact wpS_pure ⟨l.dS _, .inl ⟨_,_,rfl,last t B (by omega)⟩⟩
     rw[if_neg (by simpa using B)];split;·exact wpS_pure ⟨l.dS _, .inr ⟨_,_,_,_,_,_,rfl,t,by omega,by omega,by omega⟩⟩
     ·exact wpS_pure ⟨l.dS _,_,_,_,_,_,_,rfl,t,by omega,by omega,by omega⟩
 ·rintro c aw⟨l,o,i,j,g,q,r,rfl,L,q1,q2,q3⟩;exact⟨l, .inr ⟨_,_,_,_,_,_,rfl,L,q1,q2,by omega⟩⟩
 ·rintro c aw⟨l,⟨r,z,rfl,hm⟩|⟨o,i,j,g,q,r,rfl,L,q1,q2,q3⟩⟩;·exact wpS_pure ⟨l,_,_,rfl,hm⟩
  ·dsimp only;exact wpS_bind (wpS_modify (wpS_pure ⟨l.dS _,_,_,_,_,rfl,L,q1,q2,by omega⟩))
end
end SR
end
section
namespace SR
open PySem PySem.Spec PyProof.Rows
noncomputable def uu:Array Keyed->Array Keyed->StateT SortSt Sem (Array Keyed):=sortPriv%PySem.Builtin.mergeHi
variable{a b o:Array Keyed}{ia ib na nb:Nat}
theorem Hi.dn(h:Hi a b o na nb)(ha:dg a 0 a.size)(c:0<na){x:Keyed}(e:a[na-1]?=some x)(hm:∀j,j<nb->j<b.size->K b j<=K a (na-1)):Hi a b (o.push x) (na-1) nb:=Hi.one (na:=na-1) (by rwa[show na-1+1=na by omega]) ha e hm
section
variable{prog:Program}{w:World}{A:Around}{E:Value->Shared->Prop}{s:Shared}
theorem tH{st:SortSt}{Q:Array Keyed->SortSt->Prop}(hk:kindOf st=oneType')(ha:dg a 0 a.size)(hb:dg b 0 b.size)(V:∀x,x∈a.toList->IK x)(Z:∀x,x∈b.toList->IK x)(h1:1<=a.size)(h2:1<=b.size)(hF:∀i,i<a.size->K b 0<=K a i)(hL:∀j,j<b.size->K b j<=K a (a.size-1))(h:∀r aw,jK st aw->Mg a b r->Q r aw):wpS (model prog w) A E s (uu a b) Q st:=by
 have first:∀{o:Array Keyed}{i j:Nat},Hi a b o i j->j=1->Mg a b (b.extract 0 j++a.extract 0 i++o.reverse):=λ{o i j}hl e=>(hl.sym.end_ hb ha λx y p _ _ Y=>by
  have :x=0:=by omega
  subst this;exact hF y Y).sym;have P:∀{o:Array Keyed}{i j:Nat},Hi a b o i j->i=0->Mg a b (a.extract 0 i++b.extract 0 j++o.reverse):=λ{o i j}hl e=>hl.end_ ha hb λx y p _ _ _=>by omega
 have fz:∀{o:Array Keyed}{i j:Nat},Hi a b o i j->j=0->Mg a b (a.extract 0 i++b.extract 0 j++o.reverse):=λ{o i j}hl e=>hl.end_ ha hb λx y _ _ c3 _=>by omega
 refine wpS_bind (wpS_lift (wpAny_rule ⟨rfl,?_⟩));obtain⟨x0,e0,i0⟩:=at_of V (i:=a.size-1) (by omega);refine wpS_bind (aH e0 ?_);have L0:Hi a b #[x0] (a.size-1) b.size:=by
  have :Hi a b #[] a.size b.size:=by refine⟨?_,List.Pairwise.nil,λx hx=>by simp at hx⟩;rw[List.drop_eq_nil_of_le (by simp),List.drop_eq_nil_of_le (by simp)];simp
  exact this.dn ha (by omega) e0 λj _ hj=>hL j hj
 by_cases p:a.size-1=0;·rw[if_pos (by simpa using p)];exact wpS_pure (h _ _ (jK.refl _) (P L0 p))
 rw[if_neg (by simpa using p)];by_cases C:b.size=1;·rw[if_pos (by simpa using C)];exact wpS_pure (h _ _ (jK.refl _) (first L0 C))
 rw[if_neg (by simpa using C)];refine wpS_bind (wpS_get ?_);refine wpS_bind (wpS_mono (wpS_forRange (I:=λx c aw=>jK st aw/\∃o i j g,c=(none,i,j,o,g)/\Hi a b o i j/\0<i/\i<a.size/\1<j/\j<=b.size/\i+j+x+1<=a.size+b.size) (Q:=λc aw=>jK st aw/\∃r z,c=(some r,z)/\Mg a b r) ?_ ?_ ⟨jK.refl _,_,_,_,_,rfl,L0,by omega,by omega,by omega,by omega,by omega⟩) ?_);rotate_left;·rintro c aw⟨_,o,i,j,g,rfl,_,q1,R,q2,S,q3⟩;omega
 ·rintro c aw⟨hs,r,z,rfl,hm⟩;exact wpS_pure (h _ _ hs hm)
 rintro x c CK _ hx⟨tQ,o1,i1,j1,g1,rfl,L1,p1,JP,p2,LQ,p3⟩;dsimp only;refine wpS_bind (wpS_mono (wpS_forRange (I:=λ_ c aw=>aw=CK/\∃o i j q r,c=(none,i,j,o,q,r)/\Hi a b o i j/\0<i/\i<a.size/\1<j/\j<=b.size/\i+j+x+1<=a.size+b.size) (Q:=λc aw=>aw=CK/\((∃r z,c=(some r,z)/\Mg a b r)\/∃o i j q r,c=(none,i,j,o,q,r)/\Hi a b o i j/\0<i/\i<a.size/\1<j/\j<=b.size/\i+j+x+1<=a.size+b.size)) ?_ ?_ ⟨rfl,_,_,_,_,_,rfl,L1,p1,JP,p2,LQ,p3⟩) ?_)
 ·rintro y c aw _ hy⟨rfl,o,i,j,q,r,rfl,L,q1,R,q2,S,q3⟩;dsimp only;obtain⟨u,G,iu⟩:=at_of Z (i:=j-1) (by omega);obtain⟨v,k,X⟩:=at_of V (i:=i-1) (by omega);refine wpS_bind (aH G (wpS_bind (aH k (wpS_bind (w_lt (by rw[tQ.kind,hk]) iu X ?_)))));by_cases hl:kv u<kv v
  ·simp only[hl,decide_true,if_true];refine wpS_bind (aH k ?_);have F:Hi a b (o.push v) (i-1) j:=L.dn ha q1 k λf p C=>by have :=hb f (j-1) (zQ08 _) (by omega) (by omega);rw[av G]at this;rw[av k];omega
   by_cases J:i-1=0;·rw[if_pos (by simpa using J)];exact wpS_pure ⟨rfl, .inl ⟨_,_,rfl,P F J⟩⟩
   rw[if_neg (by simpa using J)];split;·exact wpS_pure ⟨rfl, .inr ⟨_,_,_,_,_,rfl,F,by omega,by omega,by omega,by omega,by omega⟩⟩
   ·exact wpS_pure ⟨rfl,_,_,_,_,_,rfl,F,by omega,by omega,by omega,by omega,by omega⟩
  ·simp only[hl,decide_false,eW,if_false];refine wpS_bind (aH G ?_);have F:Hi a b (o.push u) i (j-1):=(L.sym.dn hb (by omega) G λl p C=>by have :=ha l (i-1) (zQ08 _) (by omega) (by omega);rw[av k]at this;rw[av G];omega).sym;by_cases J:j-1=1;·rw[if_pos (by simpa using J)];exact wpS_pure ⟨rfl, .inl ⟨_,_,rfl,first F J⟩⟩
   rw[if_neg (by simpa using J)];split;·exact wpS_pure ⟨rfl, .inr ⟨_,_,_,_,_,rfl,F,by omega,by omega,by omega,by omega,by omega⟩⟩
   ·exact wpS_pure ⟨rfl,_,_,_,_,_,rfl,F,by omega,by omega,by omega,by omega,by omega⟩
 ·rintro c aw⟨rfl,z⟩;exact⟨rfl, .inr z⟩
 rintro c bq⟨rfl,⟨r,z,rfl,hm⟩|⟨o2,i2,j2,q,r,rfl,L2,r1,Bv,r2,Ld,r3⟩⟩;·exact wpS_pure ⟨tQ,_,_,rfl,hm⟩
 dsimp only;refine wpS_bind (wpS_lift (wpAny_rule ⟨rfl,?_⟩));refine wpS_bind (wpS_mono (wpS_forRange (I:=λy c aw=>jK st aw/\∃o i j g q r,c=(none,i,j,o,g,q,r)/\Hi a b o i j/\0<i/\i<a.size/\1<j/\j<=b.size/\i+j+x+1+y<=a.size+b.size) (Q:=λc aw=>jK st aw/\((∃r z,c=(some r,z)/\Mg a b r)\/∃o i j g q r,c=(none,i,j,o,g,q,r)/\Hi a b o i j/\0<i/\i<a.size/\1<j/\j<=b.size/\i+j+x+2<=a.size+b.size)) ?_ ?_ ⟨tQ,_,_,_,_,_,_,rfl,L2,r1,Bv,r2,Ld,r3⟩) ?_)
 ·rintro y c aw _ hy⟨d,o,i,j,g,q,r,rfl,L,q1,R,q2,S,q3⟩;dsimp only;obtain⟨u,G,iu⟩:=at_of Z (i:=j-1) (by omega);refine w_ite (λhg=>?_) λhg=>?_;all_goals
   refine wpS_bind (wpS_modify ?_);refine wpS_bind (aH G ?_);refine wpS_bind (cL (by rw[<-hk];exact d.kind) iu (λl oN=>at_of V (by omega)) (λl f p C=>ha _ _ (zQ08 _) (by omega) (by omega)) (by omega) λm EO DD Cg=>?_);dsimp only;have T:Hi a b (o++(a.extract m i).reverse) m j:=L.more ha m EO λl f p C c3 Y c5=>by have D:=u9 (Cg l (by omega) (by omega));rw[Nat.zero_add]at D;have U:=hb f (j-1) (zQ08 _) (by omega) (by omega);rw[av G]at U;omega
   have zi:∀l,l<m->l<a.size->K a l<=K b (j-1):=λl p C=>by have D:=AU (DD l (by omega));rw[Nat.zero_add]at D;rw[av G];exact D
   rcases(show i-m>0\/i=m by omega)with kp|kz
   ·rw[if_pos kp];by_cases J:m=0;·rw[if_pos (by simpa using J)];exact wpS_pure ⟨d.dS _, .inl ⟨_,_,rfl,P T J⟩⟩
    rw[if_neg (by simpa using J)];generalize o++(a.extract m i).reverse=o3 at T⊢;have hlt:0<m:=by omega
    have hle:m<=i:=EO;refine wpS_bind (aH G ?_);have F:Hi a b (o3.push u) m (j-1):=(T.sym.dn hb (by omega) G zi).sym;by_cases M:j-1=1;·rw[if_pos (by simpa using M)];exact wpS_pure ⟨d.dS _, .inl ⟨_,_,rfl,first F M⟩⟩
    rw[if_neg (by simpa using M)];obtain⟨v,k,X⟩:=at_of V (i:=m-1) (by omega);refine wpS_bind (aH k ?_);refine wpS_bind (cL (by rw[<-hk];exact d.kind) X (λl oN=>at_of Z (by omega)) (λl f p C=>hb _ _ (zQ08 _) (by omega) (by omega)) (by omega) λn u4 oR pT=>?_);dsimp only;have H:Hi a b (o3.push u++(b.extract n (j-1)).reverse) m n:=(F.sym.more hb n u4 λf l p C c3 Y c5=>by have D:=oA (pT f (by omega) (by omega));rw[Nat.zero_add]at D;have U:=ha l (m-1) (zQ08 _) (by omega) (by omega);rw[av k]at U;omega).sym;have W:∀f,f<n->f<b.size->K b f<=K a (m-1):=λf p C=>by have D:=tX (oR f (by omega));rw[Nat.zero_add]at D;rw[av k];exact D
    rcases(show j-1-n>0\/n=j-1 by omega)with zZ|Ao
    ·rw[if_pos zZ];by_cases N:n=1;·rw[if_pos (by simpa using N)];exact wpS_pure ⟨d.dS _, .inl ⟨_,_,rfl,first H N⟩⟩
     rw[if_neg (by simpa using N)];by_cases O:n=0;·rw[if_pos (by simpa using O)];exact wpS_pure ⟨d.dS _, .inl ⟨_,_,rfl,fz H O⟩⟩
     rw[if_neg (by simpa using O)];refine wpS_bind (aH k ?_);have t:=H.dn ha hlt k W;by_cases B:m-1=0;·rw[if_pos (by simpa using B)];exact wpS_pure ⟨d.dS _, .inl ⟨_,_,rfl,P t B⟩⟩
     rw[if_neg (by simpa using B)];split;·exact wpS_pure ⟨d.dS _, .inr ⟨_,_,_,_,_,_,rfl,t,by omega,by omega,by omega,by omega,by omega⟩⟩
     ·exact wpS_pure ⟨d.dS _,_,_,_,_,_,_,rfl,t,by omega,by omega,by omega,by omega,by omega⟩
    ·subst Ao;rw[if_neg (by omega)];rw[Array.extract_eq_empty_of_le (by omega),Array.reverse_empty,Array.append_empty]at H;refine wpS_bind (aH k ?_);have t:=H.dn ha hlt k W;by_cases B:m-1=0;·rw[if_pos (by simpa using B)];exact wpS_pure ⟨d.dS _, .inl ⟨_,_,rfl,P t B⟩⟩
     rw[if_neg (by simpa using B)];split;·exact wpS_pure ⟨d.dS _, .inr ⟨_,_,_,_,_,_,rfl,t,by omega,by omega,by omega,by omega,by omega⟩⟩
     ·exact wpS_pure ⟨d.dS _,_,_,_,_,_,_,rfl,t,by omega,by omega,by omega,by omega,by omega⟩
   ·subst kz;rw[if_neg (by omega)];rw[Array.extract_eq_empty_of_le (by omega),Array.reverse_empty,Array.append_empty]at T;have hlt:0<i:=q1;have hle:i<=i:=zQ04 _;refine wpS_bind (aH G ?_);have F:Hi a b (o.push u) i (j-1):=(T.sym.dn hb (by omega) G zi).sym;by_cases M:j-1=1;·rw[if_pos (by simpa using M)];exact wpS_pure ⟨d.dS _, .inl ⟨_,_,rfl,first F M⟩⟩
    rw[if_neg (by simpa using M)];obtain⟨v,k,X⟩:=at_of V (i:=i-1) (by omega);refine wpS_bind (aH k ?_);refine wpS_bind (cL (by rw[<-hk];exact d.kind) X (λl oN=>at_of Z (by omega)) (λl f p C=>hb _ _ (zQ08 _) (by omega) (by omega)) (by omega) λn u4 oR pT=>?_);dsimp only;have H:Hi a b (o.push u++(b.extract n (j-1)).reverse) i n:=(F.sym.more hb n u4 λf l p C c3 Y c5=>by have D:=oA (pT f (by omega) (by omega));rw[Nat.zero_add]at D;have U:=ha l (i-1) (zQ08 _) (by omega) (by omega);rw[av k]at U;omega).sym;have W:∀f,f<n->f<b.size->K b f<=K a (i-1):=λf p C=>by have D:=tX (oR f (by omega));rw[Nat.zero_add]at D;rw[av k];exact D
    rcases(show j-1-n>0\/n=j-1 by omega)with zZ|Ao
    ·rw[if_pos zZ];by_cases N:n=1;·rw[if_pos (by simpa using N)];exact wpS_pure ⟨d.dS _, .inl ⟨_,_,rfl,first H N⟩⟩
     rw[if_neg (by simpa using N)];by_cases O:n=0;·rw[if_pos (by simpa using O)];exact wpS_pure ⟨d.dS _, .inl ⟨_,_,rfl,fz H O⟩⟩
     rw[if_neg (by simpa using O)];refine wpS_bind (aH k ?_);have t:=H.dn ha hlt k W;by_cases B:i-1=0;·rw[if_pos (by simpa using B)];exact wpS_pure ⟨d.dS _, .inl ⟨_,_,rfl,P t B⟩⟩
     rw[if_neg (by simpa using B)];split;·exact wpS_pure ⟨d.dS _, .inr ⟨_,_,_,_,_,_,rfl,t,by omega,by omega,by omega,by omega,by omega⟩⟩
     ·exact wpS_pure ⟨d.dS _,_,_,_,_,_,_,rfl,t,by omega,by omega,by omega,by omega,by omega⟩
    ·subst Ao;rw[if_neg (by omega)];rw[Array.extract_eq_empty_of_le (by omega),Array.reverse_empty,Array.append_empty]at H;refine wpS_bind (aH k ?_);have t:=H.dn ha hlt k W;by_cases B:i-1=0;·rw[if_pos (by simpa using B)];exact wpS_pure ⟨d.dS _, .inl ⟨_,_,rfl,P t B⟩⟩
     rw[if_neg (by simpa using B)];split;·exact wpS_pure ⟨d.dS _, .inr ⟨_,_,_,_,_,_,rfl,t,by omega,by omega,by omega,by omega,by omega⟩⟩
     ·exact wpS_pure ⟨d.dS _,_,_,_,_,_,_,rfl,t,by omega,by omega,by omega,by omega,by omega⟩
 ·rintro c aw⟨d,o,i,j,g,q,r,rfl,L,q1,R,q2,S,q3⟩;exact⟨d, .inr ⟨_,_,_,_,_,_,rfl,L,q1,R,q2,S,by omega⟩⟩
 ·rintro c aw⟨d,⟨r,z,rfl,hm⟩|⟨o,i,j,g,q,r,rfl,L,q1,R,q2,S,q3⟩⟩;·exact wpS_pure ⟨d,_,_,rfl,hm⟩
  ·dsimp only;exact wpS_bind (wpS_modify (wpS_pure ⟨d.dS _,_,_,_,_,rfl,L,q1,R,q2,S,by omega⟩))
end
end SR
end
section
namespace SR
open PySem PySem.Spec PyProof.Rows
theorem gV{xs:Array Keyed}{i j q:Nat}(h:i+q<j):K (xs.extract i j) q=K xs (i+q):=by
 refine K_congr ?_;rw[Array.getElem?_extract];split;·rfl
 ·rename_i hh;rw[Array.getElem?_eq_none (by omega)]
theorem km(sa:Nat):∀(l:List Keyed)(m:Nat)(xs:Array Keyed),sa+m+l.length<=xs.size->(List.foldl (λ(a:Array Keyed)(x:Keyed×Nat)=>a.setIfInBounds (sa+x.2) x.1) xs (l.zipIdx m)).toList=xs.toList.take (sa+m)++l++xs.toList.drop (sa+m+l.length)
 |[],m,xs,_=>by simp
 |x::l,m,xs,h=>by
  rw[ig]at h;rw[List.zipIdx_cons,List.foldl_cons,km sa l (m+1) _ (by rw[Array.size_setIfInBounds];omega)];dsimp only;rw[Array.toList_setIfInBounds];have b:(xs.toList.set (sa+m) x).take (sa+(m+1))=xs.toList.take (sa+m)++[x]:=by rw[show sa+(m+1)=sa+m+1 by omega,List.take_succ,List.take_set_of_le (zQ04 _)];rw[List.getElem?_set_self (by rw[Array.length_toList];omega)];rfl
  have c:(xs.toList.set (sa+m) x).drop (sa+(m+1)+l.length)=xs.toList.drop (sa+m+(x::l).length):=by rw[List.drop_set_of_lt (by omega),ig];congr 1;omega
  rw[b,c,jR,jR,jR];rfl
section
variable{prog:Program}{w:World}{A:Around}{E:Value->Shared->Prop}{s:Shared}{a₀:Array Keyed}
theorem Cc{σ:Type}{st aw:σ}{Q:PUnit->σ->Prop}(h:Q ⟨⟩ aw):wpS (model prog w) A E s (set aw:StateT σ Sem PUnit) Q st:=by unfold wpS;rw[StateT.run_set];exact zQ02 ⟨rfl,h⟩
theorem tu{st:SortSt}{c B pw:Nat}{Q:Bool->SortSt->Prop}(f:SB a₀ #[(0,c,pw),(c,B,0)] st)(H:IntKeys a₀)(hn:c+B=a₀.size)(p1:1<=c)(p2:1<=B)(s1:dg (arrOf st) 0 c)(s2:dg (arrOf st) c a₀.size)(h:∀aw,SB a₀ #[(0,c+B,pw)] aw->dg (arrOf aw) 0 a₀.size->Q true aw):wpS (model prog w) A E s (mergeAt' 0) Q st:=by
 have qT:=f.size;refine wpS_bind (wpS_get ?_);have ep:=f.pend;show wpS (model prog w) A E s (match((pendingOf st)[0]?,(pendingOf st)[0+1]?)with|(some (sa,na,power),some (sb,nb,_))=>_|_=>_) Q st;rw[ep];refine wpS_bind (Cc ?_);have I:SB a₀ #[(0,c+B,pw)] (SortSt.mk' (kindOf st) (arrOf st) (((pendingOf st).setIfInBounds 0 (0,c+B,pw)).eraseIdxIfInBounds (0+1)) (gallopOf st) (failedOf st)):=⟨f.perm,f.kind,f.failed,by show((pendingOf st).setIfInBounds 0 (0,c+B,pw)).eraseIdxIfInBounds (0+1)=_;rw[ep];simp[Array.eraseIdxIfInBounds,Array.eraseIdx]⟩;obtain⟨u,R,iu⟩:=f.at H (i:=c) (by omega);refine wpS_bind (aH R ?_);refine wpS_bind (cL f.kind iu (λi hi=>f.at H (by omega)) (λi j z n=>s1 _ _ (zQ08 _) (by omega) (by omega)) (by omega) λk k1 k2 k3=>?_);simp only[Nat.zero_add]at k2 k3⊢;have V:∀i,i<k->K (arrOf st) i<=K (arrOf st) c:=λi hi=>by rw[av R];exact AU (k2 i hi)
 have b2:∀i,k<=i->i<c->K (arrOf st) c<=K (arrOf st) i:=λi hi hj=>by rw[av R];exact u9 (k3 i hi hj)
 by_cases z:c-k=0
 ·rw[if_pos (by simpa using z)];refine wpS_pure (h _ I λi j _ n C=>?_);by_cases O:j<c;·exact s1 i j (zQ08 _) n O
  by_cases d2:i<c;·exact Int.le_trans (V i (by omega)) (s2 c j (zQ04 _) (by omega) C)
  ·exact s2 i j (by omega) n C
 rw[if_neg (by simpa using z)];obtain⟨v,M,iv⟩:=f.at H (i:=k+(c-k)-1) (by omega);refine wpS_bind (aH M ?_);have ee:k+(c-k)-1=c-1:=by omega
 rw[ee]at M;refine wpS_bind (cL f.kind iv (λi hi=>f.at H (by omega)) (λi j z n=>s2 _ _ (by omega) (by omega) (by omega)) (by omega) λm m1 m2 m3=>?_);have b3:∀j,c<=j->j<c+m->K (arrOf st) j<=K (arrOf st) (c-1):=λj z n=>by have :=tX (m2 (j-c) (by omega));rw[show c+(j-c)=j by omega]at this;rw[av M];exact this
 have W:∀j,c+m<=j->j<a₀.size->K (arrOf st) (c-1)<=K (arrOf st) j:=λj z n=>by have :=oA (m3 (j-c) (by omega) (by omega));rw[show c+(j-c)=j by omega]at this;rw[av M];exact this
 dsimp only;by_cases n:m=0
 ·rw[if_pos (by simpa using n)];refine wpS_pure (h _ I λi j _ X C=>?_);by_cases O:j<c;·exact s1 i j (zQ08 _) X O
  by_cases d2:i<c;·exact Int.le_trans (s1 i (c-1) (zQ08 _) (by omega) (by omega)) (W j (by omega) C)
  ·exact s2 i j (by omega) X C
 rw[if_neg (by simpa using n)];have S:((arrOf st).extract k c).size=c-k:=by rw[Array.size_extract];omega
 have zy:((arrOf st).extract c (c+m)).size=m:=by rw[Array.size_extract];omega
 have sx:dg ((arrOf st).extract k c) 0 ((arrOf st).extract k c).size:=λi j _ z n=>by rw[gV (by omega),gV (by omega)];exact s1 _ _ (zQ08 _) (by omega) (by omega)
 have sy:dg ((arrOf st).extract c (c+m)) 0 ((arrOf st).extract c (c+m)).size:=λi j _ z n=>by rw[gV (by omega),gV (by omega)];exact s2 _ _ (by omega) (by omega) (by omega)
 have all:∀x,x∈(arrOf st).toList->IK x:=λx d=>H x ((Array.perm_iff_toList_perm.mp f.perm).mem_iff.mp d);have lx:((arrOf st).extract k c).toList=((arrOf st).toList.drop k).take (c-k):=by have :=gm (arrOf st) k (c-k);rwa[show k+(c-k)=c by omega]at this
 have ly:=gm (arrOf st) c m;have T:∀x,x∈((arrOf st).extract k c).toList->IK x:=λx d=>all x (by rw[lx]at d;exact List.mem_of_mem_drop (List.mem_of_mem_take d));have U:∀x,x∈((arrOf st).extract c (c+m)).toList->IK x:=λx d=>all x (by rw[ly]at d;exact List.mem_of_mem_drop (List.mem_of_mem_take d));have hF:∀i,i<((arrOf st).extract k c).size->K ((arrOf st).extract c (c+m)) 0<=K ((arrOf st).extract k c) i:=λi hi=>by rw[gV (by omega),gV (by omega)];exact b2 _ (by omega) (by omega)
 have hL:∀j,j<((arrOf st).extract c (c+m)).size->K ((arrOf st).extract c (c+m)) j<=K ((arrOf st).extract k c) (((arrOf st).extract k c).size-1):=λj hj=>by rw[S,gV (by omega),gV (by omega),show k+(c-k-1)=c-1 by omega];exact b3 _ (by omega) (by omega)
 have fin:∀(r:Array Keyed)(aw:SortSt),jK (SortSt.mk' (kindOf st) (arrOf st) (((pendingOf st).setIfInBounds 0 (0,c+B,pw)).eraseIdxIfInBounds (0+1)) (gallopOf st) (failedOf st)) aw->Mg ((arrOf st).extract k c) ((arrOf st).extract c (c+m)) r->SB a₀ #[(0,c+B,pw)] (setArr aw (List.foldl (λ(a:Array Keyed)(x:Keyed×Nat)=>a.setIfInBounds (k+x.2) x.1) (arrOf aw) (r.toList.zipIdx 0)))/\dg (List.foldl (λ(a:Array Keyed)(x:Keyed×Nat)=>a.setIfInBounds (k+x.2) x.1) (arrOf aw) (r.toList.zipIdx 0)) 0 a₀.size:=by
  intro r aw o hm;have hr:r.toList.length=c-k+m:=by rw[hm.1.length_eq,gf,Array.length_toList,Array.length_toList,S,zy]
  have P:arrOf aw=arrOf st:=o.arr;have L:=km k r.toList 0 (arrOf aw) (by rw[P,hr];omega);rw[P,hr,Nat.add_zero,show k+(c-k+m)=c+m by omega]at L;rw[P];generalize List.foldl (λ(a:Array Keyed)(x:Keyed×Nat)=>a.setIfInBounds (k+x.2) x.1) (arrOf st) (r.toList.zipIdx 0)=Z at L⊢;have whole:(arrOf st).toList=(arrOf st).toList.take k++(((arrOf st).extract k c).toList++((arrOf st).extract c (c+m)).toList)++(arrOf st).toList.drop (c+m):=by rw[lx,ly];have J:=i7 (arrOf st).toList k (c-k);have N:=i7 (arrOf st).toList c m;rw[show k+(c-k)=c by omega]at J;rw[jR,jR,<-N,<-J,List.take_append_drop]
  have zp:Z.toList.Perm (arrOf st).toList:=by refine List.Perm.trans ?_ (List.Perm.of_eq whole.symm);rw[L];exact(List.Perm.append_left _ hm.1).append_right _
  have zz:Z.size=a₀.size:=by rw[<-Array.length_toList,zp.length_eq,Array.length_toList,qT]
  refine⟨⟨(Array.perm_iff_toList_perm.mpr zp).trans f.perm,o.kind.trans f.kind,o.failed.trans f.failed,o.pend.trans I.pend⟩,?_⟩;have Jz:∀x,x∈((arrOf st).extract k c).toList->∃i,k<=i/\i<c/\(arrOf st)[i]?=some x:=λx d=>by obtain⟨q,hq,e⟩:=lX d;rw[Array.length_toList,S]at hq;refine⟨k+q,by omega,by omega,?_⟩;have :=Array.getElem?_extract (xs:=arrOf st) (start:=k) (stop:=c) (i:=q);rw[if_pos (by omega)]at this;rw[<-this,<-Array.getElem?_toList,<-e];exact zQ03 _
  have H_:∀x,x∈((arrOf st).extract c (c+m)).toList->∃i,c<=i/\i<c+m/\(arrOf st)[i]?=some x:=λx d=>by obtain⟨q,hq,e⟩:=lX d;rw[Array.length_toList,zy]at hq;refine⟨c+q,by omega,by omega,?_⟩;have :=Array.getElem?_extract (xs:=arrOf st) (start:=c) (stop:=c+m) (i:=q);rw[if_pos (by omega)]at this;rw[<-this,<-Array.getElem?_toList,<-e];exact zQ03 _
  have low:∀x y,x∈(arrOf st).toList.take k->y∈r.toList\/y∈(arrOf st).toList.drop (c+m)->Le x y:=λx y d g=>by
   obtain⟨i,i1,_,F⟩:=uI d;have t:=V i i1;rw[av F]at t;have Y:∀j,c<=j->j<a₀.size->∀y,(arrOf st)[j]?=some y->Le x y:=λj D G y p=>by have :=s2 c j (zQ04 _) D G;rw[av p]at this;exact Int.le_trans t this
   rcases g with g|g
   ·rcases List.mem_append.mp (hm.1.mem_iff.mp g)with g|g;·obtain⟨j,D,G,p⟩:=Jz y g;have :=s1 i j (zQ08 _) (by omega) G;rw[av F,av p]at this;exact this
    ·obtain⟨j,D,G,p⟩:=H_ y g;exact Y j D (by omega) y p
   ·obtain⟨j,D,G,p⟩:=lS g;exact Y j (by omega) (by omega) y p
  have mid:∀x y,x∈r.toList->y∈(arrOf st).toList.drop (c+m)->Le x y:=λx y d g=>by
   obtain⟨j,D,G,p⟩:=lS g;rcases List.mem_append.mp (hm.1.mem_iff.mp d)with d|d;·obtain⟨i,i1,i2,F⟩:=Jz x d;have J:=s1 i (c-1) (zQ08 _) (by omega) (by omega);have N:=W j D (by omega);rw[av F]at J;rw[av p]at N;exact Int.le_trans J N
   ·obtain⟨i,i1,i2,F⟩:=H_ x d;have :=s2 i j i1 (by omega) (by omega);rw[av F,av p]at this;exact this
  have pw:Z.toList.Pairwise Le:=by
   rw[L,jR];have pk:∀(lo hi:Nat)(l:List Keyed),dg (arrOf st) lo hi->(∀q x,l[q]?=some x->(arrOf st)[lo+q]?=some x/\lo+q<hi)->l.Pairwise Le:=λlo hi l o hl=>by rw[List.pairwise_iff_getElem];intro i j hi hj mM;obtain⟨e1,_⟩:=hl i _ (zQ03 hi);obtain⟨e2,l2⟩:=hl j _ (zQ03 hj);have :=o (lo+i) (lo+j) (by omega) (by omega) l2;rw[av e1,av e2]at this;exact this
   refine List.pairwise_append.mpr ⟨pk 0 c _ s1 λq x e=>?_,List.pairwise_append.mpr ⟨hm.2,pk (c+m) a₀.size _ (λi j z n C=>s2 i j (by omega) n C) λq x e=>?_,λx d y g=>mid x y d g⟩,λx d y g=>low x y d (List.mem_append.mp g)⟩
   ·rw[List.getElem?_take]at e;split at e;·rw[Array.getElem?_toList]at e;rw[Nat.zero_add];exact⟨e,by omega⟩
    ·cases e
   ·rw[List.getElem?_drop,Array.getElem?_toList]at e;exact⟨e,by have :=(Array.getElem?_eq_some_iff.mp e).1;omega⟩
  rw[<-zz];exact zF pw
 refine w_ite (λ_=>?_) λ_=>?_
 ·refine wpS_bind (tN (a:=(arrOf st).extract k c) (b:=(arrOf st).extract c (c+m)) I.kind sx sy T U (by omega) (by omega) hF hL λr aw o hm=>?_);obtain⟨f1,f2⟩:=fin r aw o hm;refine wpS_bind (wpS_modify (wpS_bind (wpS_get (wpS_pure ?_))));have q:(failedOf aw).isNone=true:=by rw[o.failed];show(failedOf st).isNone=true;rw[f.failed];rfl
  show Q (failedOf aw).isNone _;rw[q];exact h _ f1 f2
 ·refine wpS_bind (tH (a:=(arrOf st).extract k c) (b:=(arrOf st).extract c (c+m)) I.kind sx sy T U (by omega) (by omega) hF hL λr aw o hm=>?_);obtain⟨f1,f2⟩:=fin r aw o hm;refine wpS_bind (wpS_modify (wpS_bind (wpS_get (wpS_pure ?_))));have q:(failedOf aw).isNone=true:=by rw[o.failed];show(failedOf st).isNone=true;rw[f.failed];rfl
  show Q (failedOf aw).isNone _;rw[q];exact h _ f1 f2
end
theorem sO{n:Nat}(h1:64<=n)(h2:n<128):minRun' n n 0=n/2+n%2:=by
 obtain⟨f,a⟩:∃f,n=f+1+1:=⟨n-2,by omega⟩;have :minRun' (f+1+1) n 0=n/2+n%2:=by rw[minRun'_succ,if_neg (by omega),minRun'_succ,if_pos (by omega)];omega
 rwa[<-a]at this
section
variable{prog:Program}{w:World}{A:Around}{E:Value->Shared->Prop}{s:Shared}{a₀:Array Keyed}
noncomputable def gy(a₀:Array Keyed)(st:SortSt):Prop:=(SB a₀ #[(0,a₀.size,0)] st/\dg (arrOf st) 0 a₀.size)\/∃a b pw,SB a₀ #[(0,a,pw),(a,b,0)] st/\a+b=a₀.size/\1<=a/\1<=b/\dg (arrOf st) 0 a/\dg (arrOf st) a a₀.size
theorem oW{st:SortSt}{Q:Unit->SortSt->Prop}(u:IntKeys a₀)(hd:(kl a₀).Nodup)(J:SB a₀ #[] st)(h1:64<=a₀.size)(h2:a₀.size<128)(h:∀aw,(arrOf aw).Perm a₀->failedOf aw=none->dg (arrOf aw) 0 a₀.size->Q () aw):wpS (model prog w) A E s sortRuns' Q st:=by
 rw[sortRuns'_eq];refine wpS_bind (wpS_get ?_);dsimp only;simp only[J.size,sO h1 h2];obtain⟨g,W⟩:∃g,g=a₀.size/2+a₀.size%2:=⟨_,rfl⟩;rw[<-W];refine wpS_bind (wpS_mono (wpS_forRange (I:=λx c aw=>(x=0/\c=(none,0)/\SB a₀ #[] aw)\/(x=1/\∃b,c=(none,b)/\b<a₀.size/\1<=b/\g<=b/\SB a₀ #[(0,b,0)] aw/\dg (arrOf aw) 0 b)\/(1<=x/\c=(none,a₀.size)/\gy a₀ aw)) (Q:=λc aw=>c=(none,a₀.size)/\gy a₀ aw) ?_ ?_ (.inl ⟨rfl,rfl,J⟩)) ?_)
 ·rintro x c aw _ B(⟨rfl,rfl,G⟩|⟨rfl,b,rfl,g1,S,g3,G,Y⟩|⟨Ml,rfl,hT⟩)
  ·dsimp only;rw[if_neg (by omega)];have fin:∀n a,SB a₀ #[] a->1<=n->n<=a₀.size->g<=n->dg (arrOf a) 0 n->(0+1=0/\((none,0+n):Option Unit×Nat)=(none,0)/\SB a₀ #[] (setPending a ((pendingOf a).push (0,n,0))))\/(0+1=1/\∃b,((none,0+n):Option Unit×Nat)=(none,b)/\b<a₀.size/\1<=b/\g<=b/\SB a₀ #[(0,b,0)] (setPending a ((pendingOf a).push (0,n,0)))/\dg (arrOf a) 0 b)\/(1<=0+1/\((none,0+n):Option Unit×Nat)=(none,a₀.size)/\gy a₀ (setPending a ((pendingOf a).push (0,n,0)))):=by
    intro n a d q1 q2 q3 q4;have k:SB a₀ #[(0,n,0)] (setPending a ((pendingOf a).push (0,n,0))):=⟨d.perm,d.kind,d.failed,by show(pendingOf a).push _=_;rw[d.pend];rfl⟩;by_cases e:n=a₀.size;·rw[e]at k q4⊢;exact .inr (.inr ⟨by omega,by rw[Nat.zero_add], .inl ⟨k,q4⟩⟩)
    ·exact .inr (.inl ⟨rfl,n,by rw[Nat.zero_add],by omega,q1,q3,k,q4⟩)
   refine wpS_bind (y_ u hd (by omega) (by omega) G λm a d N V p _=>?_);rw[Nat.zero_add]at p;dsimp only;by_cases hlt:m<g
   ·rw[if_pos hlt];refine wpS_bind (wpS_lift (wpAny_rule ⟨rfl,?_⟩));have em:min (a₀.size-0) g=g:=by omega
    refine wpS_bind (vI (n:=min (a₀.size-0) g) u (by omega) (by omega) d (by rw[Nat.zero_add];exact p) λo k r _=>?_);refine w_ite (λz=>nomatch z) λ_=>?_;refine wpS_bind (wpS_get ?_);have hb:(pendingOf o).back?=none:=by rw[k.pend];rfl
    rw[hb];dsimp only;rw[Nat.zero_add]at r;exact wpS_bind (wpS_modify (wpS_pure (fin (min (a₀.size-0) g) o k (by omega) (by omega) (by omega) r)))
   ·rw[if_neg hlt];refine wpS_bind (wpS_get ?_);have hb:(pendingOf a).back?=none:=by rw[d.pend];rfl
    rw[hb];dsimp only;exact wpS_bind (wpS_modify (wpS_pure (fin m a d N (by omega) (by omega) p)))
  ·dsimp only;rw[if_neg (by omega)];have fin:∀n a,n=a₀.size-b->SB a₀ #[(0,b,0)] a->dg (arrOf a) b (b+n)->(∀i,i<b->K (arrOf a) i=K (arrOf aw) i)->∀pw,(1+1=0/\((none,b+n):Option Unit×Nat)=(none,0)/\SB a₀ #[] (setPending (setPending a ((pendingOf a).modify ((pendingOf a).size-1) λ(st,len,_)=>(st,len,pw))) ((pendingOf (setPending a ((pendingOf a).modify ((pendingOf a).size-1) λ(st,len,_)=>(st,len,pw)))).push (b,n,0))))\/(1+1=1/\∃l,((none,b+n):Option Unit×Nat)=(none,l)/\l<a₀.size/\1<=l/\g<=l/\SB a₀ #[(0,l,0)] (setPending (setPending a ((pendingOf a).modify ((pendingOf a).size-1) λ(st,len,_)=>(st,len,pw))) ((pendingOf (setPending a ((pendingOf a).modify ((pendingOf a).size-1) λ(st,len,_)=>(st,len,pw)))).push (b,n,0)))/\dg (arrOf a) 0 l)\/(1<=1+1/\((none,b+n):Option Unit×Nat)=(none,a₀.size)/\gy a₀ (setPending (setPending a ((pendingOf a).modify ((pendingOf a).size-1) λ(st,len,_)=>(st,len,pw))) ((pendingOf (setPending a ((pendingOf a).modify ((pendingOf a).size-1) λ(st,len,_)=>(st,len,pw)))).push (b,n,0)))):=by
    intro n a Z d q4 C pw;have F:b+n=a₀.size:=by omega
    refine .inr (.inr ⟨by omega,by rw[F], .inr ⟨b,n,pw,⟨d.perm,d.kind,d.failed,?_⟩,F,S,by omega,λi j P R H=>?_,?_⟩⟩);·show((pendingOf a).modify ((pendingOf a).size-1) λ(st,len,_)=>(st,len,pw)).push (b,n,0)=_;rw[d.pend];simp
    ·show K (arrOf a) i<=K (arrOf a) j;rw[C i (by omega),C j H];exact Y i j P R H
    ·rw[F]at q4;exact q4
   have O:∀(a:SortSt)(n:Nat)(D:_->SortSt->Prop)(f:Nat->Option Unit×Unit->StateT SortSt Sem (ForInStep (Option Unit×Unit))),SB a₀ #[(0,b,0)] a->(∀x y,y (.done (none,())) a->wpS (model prog w) A E s (f x (none,())) y a)->D (none,()) a->wpS (model prog w) A E s (forIn [0:a₀.size] (none,()) f) D a:=by
    intro a n D f d T hq;refine wpS_forRange (I:=λx c o=>o=a/\c=(none,())) ?_ ?_ ⟨rfl,rfl⟩;·rintro x c o _ _⟨rfl,rfl⟩;exact T x _ hq
    ·rintro c o⟨rfl,rfl⟩;exact hq
   refine wpS_bind (y_ u hd (by omega) (by omega) G λm a d N V p M=>?_);dsimp only;by_cases hlt:m<g
   ·rw[if_pos hlt];refine wpS_bind (wpS_lift (wpAny_rule ⟨rfl,?_⟩));have em:min (a₀.size-b) g=a₀.size-b:=by omega
    refine wpS_bind (vI (n:=min (a₀.size-b) g) u (by omega) (by omega) d p λo k r U=>?_);refine w_ite (λz=>nomatch z) λ_=>?_;refine wpS_bind (wpS_get ?_);have hb:(pendingOf o).back?=some (0,b,0):=by rw[k.pend];rfl
    rw[hb];dsimp only;refine wpS_bind (O o m _ _ k (λx y q=>?_) ?_);·refine wpS_bind (wpS_get ?_);rw[k.pend];exact wpS_pure q
    ·exact wpS_bind (wpS_modify (wpS_bind (wpS_modify (wpS_pure (fin _ o em k r (λi hi=>(U i hi).trans (M i hi)) _)))))
   ·rw[if_neg hlt];refine wpS_bind (wpS_get ?_);have hb:(pendingOf a).back?=some (0,b,0):=by rw[d.pend];rfl
    rw[hb];dsimp only;refine wpS_bind (O a m _ _ d (λx y q=>?_) ?_);·refine wpS_bind (wpS_get ?_);rw[d.pend];exact wpS_pure q
    ·exact wpS_bind (wpS_modify (wpS_bind (wpS_modify (wpS_pure (fin m a (by omega) d p M _)))))
  ·dsimp only;rw[if_pos (zQ04 _)];exact wpS_pure ⟨rfl,hT⟩
 ·rintro c aw(⟨B,_⟩|⟨B,_⟩|⟨_,hc,hT⟩);·omega
  ·omega
  ·exact⟨hc,hT⟩
 rintro c aw⟨rfl,hT⟩;dsimp only;refine wpS_bind (wpS_mono (wpS_forRange (I:=λx c t=>c=(none,())/\((x=0/\gy a₀ t)\/∃pw,SB a₀ #[(0,a₀.size,pw)] t/\dg (arrOf t) 0 a₀.size)) (Q:=λc t=>c=(none,())/\∃pw,SB a₀ #[(0,a₀.size,pw)] t/\dg (arrOf t) 0 a₀.size) ?_ ?_ ⟨rfl, .inl ⟨rfl,hT⟩⟩) ?_)
 ·rintro x c a _ B⟨rfl,X⟩;have two:(∃pw,SB a₀ #[(0,a₀.size,pw)] a/\dg (arrOf a) 0 a₀.size)\/∃b l pw,SB a₀ #[(0,b,pw),(b,l,0)] a/\b+l=a₀.size/\1<=b/\1<=l/\dg (arrOf a) 0 b/\dg (arrOf a) b a₀.size:=by
   rcases X with⟨_,z|z⟩|z;·exact .inl ⟨0,z⟩
   ·exact .inr z
   ·exact .inl z
  refine wpS_bind (wpS_get ?_);rcases two with⟨pw,hb,v⟩|⟨b,l,pw,hb,q1,q2,q3,q4,C⟩;·rw[if_pos (by rw[hb.pend];exact zQ04 1)];exact wpS_pure ⟨rfl,pw,hb,v⟩
  ·rw[if_neg (by rw[hb.pend];simp)];have e:(if(Option.any (λx=>decide (x<(pendingOf a)[(pendingOf a).size-2+1]?.elim 0 λx=>x.2.1)) (if(pendingOf a).size-2>0 then Option.map (λx=>x.2.1) (pendingOf a)[(pendingOf a).size-2-1]? else none))=true then(pendingOf a).size-2-1 else(pendingOf a).size-2)=0:=by rw[hb.pend];rfl
   show wpS (model prog w) A E s (mergeAt' (if(Option.any (λx=>decide (x<(pendingOf a)[(pendingOf a).size-2+1]?.elim 0 λx=>x.2.1)) (if(pendingOf a).size-2>0 then Option.map (λx=>x.2.1) (pendingOf a)[(pendingOf a).size-2-1]? else none))=true then(pendingOf a).size-2-1 else(pendingOf a).size-2)>>=_) _ a;rw[e];refine wpS_bind (tu hb u q1 q2 q3 q4 C λo L r=>?_);simp only[Bool.not_true,eW,if_false];rw[q1]at L;exact wpS_pure ⟨rfl, .inr ⟨pw,L,r⟩⟩
 ·rintro c a⟨rfl,⟨B,_⟩|⟨pw,hb,v⟩⟩;·omega
  ·exact⟨rfl,pw,hb,v⟩
 ·rintro c a⟨rfl,pw,hb,v⟩;exact wpS_pure (h _ hb.perm hb.failed v)
end
def tE(xs:Array Nat):Prop:=xs.toList.Pairwise (·<·)
theorem tE.lt{xs:Array Nat}(h:tE xs){i j:Nat}(a:i<j)(hj:j<xs.size):xs.getD i 0<xs.getD j 0:=by have :=List.pairwise_iff_getElem.mp h i j (by rw[Array.length_toList];omega) (by rw[Array.length_toList];omega) a;rw[Array.getD_eq_getD_getElem?,Array.getD_eq_getD_getElem?,getElem?_pos xs i (by omega),getElem?_pos xs j hj];exact this
theorem getD_in{xs:Array Nat}{i a b:Nat}(h:i<xs.size):xs.getD i a=xs.getD i b:=by rw[Array.getD_eq_getD_getElem?,Array.getD_eq_getD_getElem?,getElem?_pos xs i h];rfl
theorem jh{xs:Array Nat}(hr:tE xs)(j:Nat):∀(fuel lo hi:Nat),lo<=hi->hi<=xs.size->hi-lo<=fuel->(∀i,i<lo->xs.getD i 0<j)->(∀i,hi<=i->i<xs.size->j<=xs.getD i 0)->SetTable.below.go xs j fuel lo hi<=xs.size/\(∀i,i<SetTable.below.go xs j fuel lo hi->xs.getD i 0<j)/\(∀i,SetTable.below.go xs j fuel lo hi<=i->i<xs.size->j<=xs.getD i 0)
 |0,lo,hi,h1,h2,h3,h4,h5=>by
  have :lo=hi:=by omega
  subst this;exact⟨h2,h4,h5⟩
 |fuel+1,lo,hi,h1,h2,h3,h4,h5=>by
  unfold SetTable.below.go;by_cases hl:lo<hi
  ·rw[if_pos hl];dsimp only;have hm:(lo+hi)/2<xs.size:=by omega
   rw[getD_in (b:=0) hm];by_cases hc:xs.getD ((lo+hi)/2) 0<j
   ·rw[if_pos hc];refine jh hr j fuel _ hi (by omega) h2 (by omega) (λi a=>?_) h5;by_cases e:i=(lo+hi)/2;·subst e;exact hc
    ·exact Nat.lt_trans (hr.lt (j:=(lo+hi)/2) (by omega) hm) hc
   ·rw[if_neg hc];refine jh hr j fuel lo _ (by omega) (by omega) (by omega) h4 λi a c=>?_;by_cases e:i=(lo+hi)/2;·subst e;omega
    ·exact Nat.le_of_lt (Nat.lt_of_le_of_lt (Nat.not_lt.mp hc) (hr.lt (i:=(lo+hi)/2) (by omega) c))
  ·rw[if_neg hl];have :lo=hi:=by omega
   subst this;exact⟨h2,h4,h5⟩
theorem jG{xs:Array Nat}(hr:tE xs)(j:Nat):SetTable.below xs j<=xs.size/\(∀i,i<SetTable.below xs j->xs.getD i 0<j)/\(∀i,SetTable.below xs j<=i->i<xs.size->j<=xs.getD i 0):=jh hr j xs.size 0 xs.size (zQ08 _) (zQ04 _) (by omega) (λi hi=>by omega) λi h1 h2=>by omega
theorem oX{xs:Array Nat}(hr:tE xs){j:Nat}(hj:xs[SetTable.below xs j]?≠some j):tE (SetTable.insertAt xs (SetTable.below xs j) j):=by
 obtain⟨f,c,d⟩:=jG hr j;unfold tE;rw[SetTable.toList_insertAt];have lo:∀x,x∈xs.toList.take (SetTable.below xs j)->x<j:=λx b=>by obtain⟨k,a,e⟩:=lX b;rw[List.getElem_take]at e;rw[List.length_take,Array.length_toList]at a;have :=c k (by omega);rw[Array.getD_eq_getD_getElem?,getElem?_pos xs k (by omega)]at this;rw[<-e];exact this
 have hi:∀x,x∈xs.toList.drop (SetTable.below xs j)->j<x:=λx b=>by
  obtain⟨k,a,e⟩:=lX b;rw[List.getElem_drop]at e;rw[List.length_drop,Array.length_toList]at a;have hb:SetTable.below xs j<xs.size:=by omega
  have g:=d (SetTable.below xs j) (zQ04 _) hb;have hne:xs.getD (SetTable.below xs j) 0≠j:=λz=>hj (by rw[Array.getD_eq_getD_getElem?,getElem?_pos xs _ hb]at z;rw[getElem?_pos xs _ hb];exact congrArg some z);have h1:xs.getD (SetTable.below xs j) 0<=xs.getD (SetTable.below xs j+k) 0:=by
   by_cases z:k=0;·subst z;exact zQ04 _
   ·exact Nat.le_of_lt (hr.lt (by omega) (by omega))
  have h2:xs.getD (SetTable.below xs j+k) 0=x:=by rw[Array.getD_eq_getD_getElem?,getElem?_pos xs _ (by omega)];exact e
  omega
 have whole:=hr;unfold tE at whole;rw[<-List.take_append_drop (SetTable.below xs j) xs.toList]at whole;obtain⟨h,i,l⟩:=List.pairwise_append.mp whole;refine List.pairwise_append.mpr ⟨?_,?_,?_⟩<;>simp_all[List.pairwise_append,List.pairwise_cons]
theorem sm(n:Nat):tE (Array.range n):=by unfold tE;rw[Array.toList_range];exact List.pairwise_lt_range
structure Tbl(led:Bool)(t:SetTable):Prop where
 led:t.led=led
 GZ:t.dummies=#[]
 EN:tE t.place
theorem Tbl.rR{led:Bool}{t:SetTable}(h:Tbl led t)(n:Nat):Tbl led (t.standIn n):=⟨h.led,rfl,sm n⟩
theorem Tbl.wN{led:Bool}{t:SetTable}(h:Tbl led t)(n:Nat):Tbl led (t.orStandIn n):=by
 unfold SetTable.orStandIn;split;·exact h
 ·exact h.rR n
theorem jT{t:SetTable}(h:t.dummies=#[])(j:Nat):t.slot j≠ .dummy:=by
 unfold SetTable.slot SetTable.has;rw[h];dsimp only;split;·exactλz=>nomatch z
 ·rw[if_neg (by simp)];exactλz=>nomatch z
theorem gQ{t:SetTable}(hd:t.dummies=#[]){f:Nat->Int}{h:Int}{j:Nat}{d:Option Nat}:∀(fuel:Nat)(p:SetTable.Probe),p.dummy=none->SetTable.probe.go t f h fuel p=some (.empty j d)->d=none/\t.slot j= .empty
 |0,p,_,e=>by unfold SetTable.probe.go at e;cases e
 |fuel+1,p,b,e=>by
  unfold SetTable.probe.go at e;have c:(t.advance p).dummy=none:=by unfold SetTable.advance;split<;>exact b
  cases a:t.slot p.j with
   |empty=>rw[a]at e;cases e;exact⟨b,a⟩
   |dummy=>exact absurd a (jT hd _)
   |live i=>
    rw[a]at e;dsimp only at e;split at e;·cases e
    ·exact gQ hd fuel _ c e
theorem Tbl.lay{led:Bool}{t:SetTable}(h:Tbl led t)(es:Array (Int×Value))(a:Int)(x:Value):Tbl led (layNew t es a x).2.1:=by
 unfold layNew;cases e:t.freeSlot a with
  |none=>exact h.rR _
  |some r=>
   obtain⟨slot,g⟩:=r;dsimp only;refine Tbl.wN ?_ _;have :t.slot slot= .empty:=by unfold SetTable.freeSlot at e;cases b:t.probe (λ_=>a+1) a (t.probeStart a)with|none=>rw[b]at e;cases e|some m=>rw[b]at e;cases m with|candidate=>cases e|empty j d=>obtain⟨c,f⟩:=gQ h.GZ _ _ rfl b;subst c;cases e;exact f
   have hne:t.place[SetTable.below t.place slot]?≠some slot:=λz=>by unfold SetTable.slot at this;dsimp only at this;rw[if_pos (by rw[z];exact beq_self_eq_true _)]at this;cases this
   refine⟨h.led,?_,oX h.EN hne⟩;show(if SetTable.has t.dummies slot then _ else t.dummies)=_;rw[h.GZ,if_neg (by unfold SetTable.has;simp)]
theorem iT{b:Type}(f:Nat->Option b):∀l:List Nat,((l.filterMap λj=>(f j).map λa=>(j,a)).map (·.1)).Sublist l|[]=>List.Sublist.refl _|j::l=>by rw[lQ];cases e:f j with|none=>exact(iT f l).cons _|some a=>exact(iT f l).cons₂ _
theorem Tbl.Ck{led:Bool}{t:SetTable}(h:Tbl led t)(es:Array (Int×Value))(n:Nat):Tbl led (relayAll t es n).2.1:=by
 unfold relayAll SetTable.relaid SetTable.laid;cases SetTable.layClean (SetTable.sizeAbove n-1) (es.map (·.1))with
  |none=>exact h.rR _
  |some a=>
   dsimp only[Option.bind_eq_bind,Option.bind_some,Option.pure_def];split;·exact⟨h.led,rfl,List.Pairwise.sublist (iT (λj=>a.getD j none) _) List.pairwise_lt_range⟩
   ·exact h.rR _
theorem Tbl.fresh(led:Bool):Tbl led (.fresh 0 0 led):=⟨rfl,rfl,List.Pairwise.nil⟩
theorem Tbl.plain{led:Bool}{t:SetTable}(h:Tbl led t):Tbl led {t with plain:=false}:=⟨h.led,h.GZ,h.EN⟩
noncomputable abbrev sobj(es:Array (Int×Value))(ep:Nat)(t:SetTable):Obj:={cls:= .type "set",dict:=none,data:= .set es ep t}
noncomputable abbrev ledW(w:World):Bool:=!w.params.followText "set-order"
noncomputable def keysOf(es:Array (Int×Value)):List Int:=es.toList.map λe=>numOf e.2
noncomputable def SetI(prog:Program)(w:World)(h:Heap)(a:Addr)(ks:List Int):Prop:=∃es ep t,h.get? a=some (sobj es ep t)/\ElemsOf (intKind prog w) es.toList/\(keysOf es).Perm ks/\es.size<scanBound/\t.fits es.size=true/\Tbl (ledW w) t
section
variable{prog:Program}{w:World}{A:Around}{E:Value->Shared->Prop}{s:Shared}{a:Addr}{ks:List Int}
theorem SetI.keep{h h':Heap}(S:SetI prog w h a ks)(k:∀o,h.get? a=some o->h'.get? a=some o):SetI prog w h' a ks:=let⟨es,ep,t,ho,r⟩:=S;⟨es,ep,t,k _ ho,r⟩
theorem uk(es:Array (Int×Value)):(keysOf es).length=es.size:=by unfold keysOf;rw[dA,Array.length_toList]
theorem wy{l:List (Int×Value)}(d:ElemsOf (intKind prog w) l)(k:Int):(∃e∈l,(intKind prog w).is k e.2=true)↔k∈l.map λe=>numOf e.2:=by
 rw[List.mem_map];constructor;·rintro⟨e,he,b⟩;obtain⟨t,ht⟩:=Value.isInt_shape b;exact⟨e,he,by rw[ht];rfl⟩
 ·rintro⟨e,he,b⟩;obtain⟨⟨f,c,_⟩,_⟩:=d e he;obtain⟨t,ht⟩:=Value.isInt_shape c;refine⟨e,he,?_⟩;rw[ht]at b;have :f=k:=b;subst this;exact c
theorem ko{g:Bool->Sem Unit}(v:∀(b:Bool)(s₁:Shared)(m:Unit->Shared->Prop),m () s₁->wpAny (model prog w) A (g b) m E s₁){es:Array (Int×Value)}{ep:Nat}{t:SetTable}(ho:s.heap.get? a=some (sobj es ep t)){c:Array (Int×Value)}{d:SetTable}(p:ElemsOf (intKind prog w) c.toList)(q:(keysOf c).Perm ks)(j:c.size<scanBound)(u:d.fits c.size=true)(r:Tbl (ledW w) d){y:Bool}{R:Option Bool->Shared->Prop}(h:∀h',Heap.SameBut a s.heap h'->SetI prog w h' a ks->R (some true) {s with heap:=h'}):wpAny (model prog w) A (do storeSet a c d;if(!y&&d.tooFull)=true then do g (relayAll d c (SetTable.grown c.size)).2.2;storeSet a (relayAll d c (SetTable.grown c.size)).1 (relayAll d c (SetTable.grown c.size)).2.1;pure (some true)else pure (some true)) R E s:=by
 have put:∀{h:Heap}{es:Array (Int×Value)}{ep:Nat}{t:SetTable}(f:Array (Int×Value))(t':SetTable),h.get? a=some (sobj es ep t)->(h.update a (Obj.putSet f t')).get? a=some (sobj f (ep+1) t'):=λ{h es ep t}f t' e=>by have :=Heap.get?_update_self (Obj.putSet f t') e (by rw[putSet_of f t' rfl];rfl);rw[putSet_of f t' rfl]at this;exact this
 refine zQ00 (wpAny_storeSet_of ho rfl ?_ (fits_of_scanBound j));have q1:=put c d ho;have sb:=Heap.SameBut.update s.heap a (Obj.putSet c d);split
 ·have i:=relayAll_perm d c (SetTable.grown c.size);have k:=relayAll_fits d c (SetTable.grown c.size);have l:=r.Ck c (SetTable.grown c.size);generalize relayAll d c (SetTable.grown c.size)=Z at i k l⊢;obtain⟨n,x,z⟩:=Z;dsimp only at i k l⊢;have o:n.size<scanBound:=by rw[<-Array.length_toList,i.length_eq,Array.length_toList];exact j
  refine zQ00 (v _ _ _ (zQ00 (wpAny_storeSet_of q1 rfl (zQ02 ?_) (fits_of_scanBound o))));exact h _ (sb.trans (Heap.SameBut.update _ a _)) ⟨_,_,_,put n x q1,p.perm i,(i.map _).trans q,o,k,l⟩
 ·exact zQ02 (h _ sb ⟨_,_,_,q1,p,q,j,u,r⟩)
theorem uU{k:Int}{tk:Tok}{Q:Bool->Shared->Prop}(hS:SetI prog w s.heap a ks)(F:ks.length+1<scanBound)(h:∀h' b,Heap.SameBut a s.heap h'->SetI prog w h' a (if k∈ks then ks else k::ks)->Q b {s with heap:=h'}):wpAny (model prog w) A (setAddHashed a (.int k tk) ((intKind prog w).hash k)) Q E s:=by
 obtain⟨es,ep,t,ho,f,l,hb,n,ht⟩:=hS;have x:(intKind prog w).is k (.int k tk)=true:=intKind_is _ _ _ _;have r:(Value.int k tk).scannable=true:=rfl;have G:es.size=ks.length:=by rw[<-uk,l.length_eq]
 have mem:(∃e∈es.toList,(intKind prog w).is k e.2=true)↔k∈ks:=(wy f k).trans l.mem_iff;unfold setAddHashed setAddHashedIn;refine d8 (zQ00 (wpAny_setState_of ho rfl n ?_));dsimp only;rw[byScan_of r hb f];simp only[↓reduceIte];unfold setAddByScan;refine zQ00 (zQ00 (wpAny_rule (zQ00 (wpAny_setScan_of x ho rfl n f ?_))));cases hr:List.findIdx? (λe=>(intKind prog w).is k e.2) es.toList with
  |some j=>obtain⟨hj,C,_⟩:=List.findIdx?_eq_some_iff_getElem.mp hr;have p:k∈ks:=mem.mp ⟨es.toList[j],List.getElem_mem hj,C⟩;rw[if_pos p]at h;exact zQ02 (zQ02 (h s.heap _ (Heap.SameBut.refl a s.heap) ⟨es,ep,t,ho,f,l,hb,n,ht⟩))
  |none=>
   have p:¬k∈ks:=λz=>by obtain⟨e,he,B⟩:=mem.mpr z;have :=List.findIdx?_eq_none_iff.mp hr e he;rw[B]at this;exact Bool.noConfusion this
   rw[if_neg p]at h;have o:∀(b:Bool)(s₁:Shared)(c:Unit->Shared->Prop),c () s₁->wpAny (model prog w) A (match b with|true=>rule "set.scan.the-table-gave-way"|false=>pure ()) c E s₁:=λb s₁ c hq=>by cases b<;>first|exact zQ02 hq|exact wpAny_rule hq
   have d:=layNew_perm t es ((intKind prog w).hash k) (.int k tk);have g:=layNew_fits t es ((intKind prog w).hash k) (.int k tk);have i:=ht.lay es ((intKind prog w).hash k) (.int k tk);dsimp only;generalize layNew t es ((intKind prog w).hash k) (.int k tk)=Z at d g i⊢;obtain⟨m,H,I,D⟩:=Z;dsimp only at d g i⊢;rw[Array.toList_push]at d;have v:ElemsOf (intKind prog w) m.toList:=(f.push x r).perm d;have y:(keysOf m).Perm (k::ks):=by refine(d.map _).trans ?_;rw[List.map_append];exact List.perm_append_comm.trans (List.Perm.cons _ l)
   have u:m.size<scanBound:=by rw[<-Array.length_toList,d.length_eq,gf,Array.length_toList];simp;omega
   refine zQ00 (o _ _ _ ?_);split
   ·refine zQ00 ?_;rw[hashByValue_scannable 8 r];refine zQ02 (ko (λb s₁ c hq=>o b s₁ c hq) ho v y u ?_ ?_ λh' q hS'=>zQ02 (h h' _ q hS'))
    ·split;·exact g
     ·exact SetTable.fits_plain_off g
    ·split;·exact i
     ·exact i.plain
   ·refine zQ00 (zQ02 ?_);exact ko (λb s₁ c hq=>o b s₁ c hq) ho v y u g i λh' q hS'=>zQ02 (h h' _ q hS')
theorem w_updLoop{I:Addr}{fp g:List Addr}{G:Array GenState->Array GenState->Prop}{n:Nat}{P:Nat->Value->Prop}{St:Nat->Shared->Prop}{R:Result->Shared->Prop}(W:WalksS prog w A.in1 I fp g G n P St)(S:Addr)(hSf:S∉fp)(ns:List Int)(T:ns.length=n)(hval:∀i v,P i v->∃k t,ns[i]?=some k/\v= .int k t)(hb:∀ks:List Int,ks.Nodup->(∀z,z∈ks->z∈ns)->ks.length+1<scanBound):∀(k i:Nat)(s:Shared)(ks:List Int),n-i=k->i<=n->St i s->SetI prog w s.heap S ks->ks.Nodup->(∀z,z∈ks↔z∈ns.take i)->ks.length<=i->(∀s' ks',Moved (S::g) G s s'->SetI prog w s'.heap S ks'->ks'.Nodup->(∀z,z∈ks'↔z∈ns)->R (.ok (.ret .none)) s')->codeAny (model prog w) A (.builtin "set.update.loop" ⟨[.ref S, .ref I],[]⟩) R s:=by
 have p:S∉g:=λh=>hSf (W.sub _ h);have hsub:∀b∈g,b∈S::g:=λb hb=>d9 _ hb;intro k;induction k with
  |zero=>
   intro i s ks J hi l hS d hm K j;have H:i=n:=by omega
   subst H;refine codeAny_builtin PyProof.Rows.F.entry_set_update_loop ?_;rw[Around.under_plainId PyProof.Rows.F.plain_set_update_loop _];refine zQ00 (m:=pyNext (.ref I)) (W.done s _ _ l λs' c=>?_);rw[List.take_of_length_le (by omega)]at hm;exact zQ02 (j s' ks (c.mono hsub) (hS.keep λo e=>c.heap S o p e) d hm)
  |succ k O=>
   intro i s ks J hi l hS d hm K j;have hlt:i<n:=by omega
   refine codeAny_builtin PyProof.Rows.F.entry_set_update_loop ?_;rw[Around.under_plainId PyProof.Rows.F.plain_set_update_loop _];refine zQ00 (m:=pyNext (.ref I)) (W.item i s _ _ hlt l λv s' B N c=>?_);obtain⟨z,t,x,rfl⟩:=hval i v B;have hS':=hS.keep λo e=>c.heap S o p e;refine zQ00 (m:=holding [Value.int z t] (setAdd S (.int z t))) (d8 ?_);unfold setAdd;refine d8 (zQ00 ((intKind prog w).pyHash (k:=z) (intKind_is _ _ _ _) ?_));refine uU (s:={s' with toks:=s'.toks+1}) hS' (hb ks d λz f=>List.mem_of_mem_take ((hm z).mp f)) λh' b r D=>?_;have u:ns.take (i+1)=ns.take i++[z]:=by rw[List.take_succ,x];rfl
   refine zQ02 ⟨plainId_quiet PyProof.Rows.F.plain_set_update_loop _,O (i+1) _ _ (by omega) hlt (W.frame _ s' _ _ N (Nat.le_succ _) λb hb o e=>?_) D ?_ ?_ ?_ λQ ks' L C M F=>?_⟩;·rw[r.2 b (λh:b=S=>hSf (by rw[<-h];exact hb))];exact e
   ·split;·exact d
    ·rename_i f;exact List.nodup_cons.mpr ⟨f,d⟩
   ·intro y;rw[u,List.mem_append,List.mem_singleton,<-hm y];split;·rename_i f;exact⟨.inl,λq=>q.elim id λe=>e▸f⟩
    ·rw[zQ26];exact⟨λq=>q.elim .inr .inl,λq=>q.elim .inr .inl⟩
   ·split;·omega
    ·rw[ig];omega
   ·refine j Q ks' (Moved.trans W.gtrans ((c.mono hsub).then_heap (Nat.le_succ _) λb o hb e=>?_) L) C M F;rw[r.2 b (λh:b=S=>hb (by rw[h];exact dj))];exact e
end
section
variable{prog:Program}{w:World}{A:Around}{E:Value->Shared->Prop}{s:Shared}
theorem c_setNew(a:Value){Q₁:Value->Shared->Prop}(h:Q₁ (.ref s.heap.objs.size) {s with heap:=s.heap.push (sobj #[] 0 (.fresh 0 0 (ledW w)))}):codeAny (model prog w) A (.call (.builtin "set.__new__") ⟨[.type "set",a],[]⟩) (wants Q₁ E) s:=by refine codeAny_of_tree ?_;refine zQ00 (m:=checkBuiltinCall "set.__new__" ⟨[.type "set",a],[]⟩) (wpAny_of_eq (PySem.F.newCall_set_1 a) (zQ02 ⟨plainId_quiet PySem.F.plain_set_new _,codeAny_builtin PySem.F.entry_set_new ?_⟩));rw[Around.under_plainId PySem.F.plain_set_new _];unfold Builtin.«set.__new__» Builtin.Frozenset.newClass;have hsub:=sub_set_self;obtain⟨b,g,d,tk,os⟩:=s;dsimp only;wp_walk;refine jX (zQ02 ?_);dsimp only;simp only[newObj];exact zQ00 (wpAny_alloc (zQ02 (zQ02 h)))
set_option maxHeartbeats 3200000 in
theorem w_setOf {l : Addr} {items : Array Value} {ns : List Int} {Q : Value → Shared → Prop} (hh : A.handled = none) (hl : s.heap.IsList l items) (hi : IntsAre items.toList ns) (hb : ∀ ks : List Int, ks.Nodup → (∀ z, z ∈ ks → z ∈ ns) → ks.length + 1 < scanBound)
    (h : ∀ (h' : Heap) (tk : Nat) (ks : List Int), SetI prog w h' s.heap.objs.size ks → ks.Nodup → (∀ z, z ∈ ks ↔ z ∈ ns) → (∀ b o, b < s.heap.objs.size → s.heap.get? b = some o → h'.get? b = some o) → Q (.ref s.heap.objs.size) { s with heap := h', toks := tk }) :
    wpAny (model prog w) A (call (.type "set") [.ref l]) Q E s := by
  obtain ⟨c, tl, hmro⟩ := PySem.F.called_set.mro
  have hmade := PySem.F.called_set.made
  have hsub := PySem.F.called_set.sub
  refine wpAny_call (codeAny_of_tree (zQ02 ⟨Code.quiet_builtin _ (by decide +kernel), codeAny_builtin F.entry_type_call ?_⟩))
  rw [Around.under_plain (weight_type_call_type "set" [.ref l] []) rfl]
  have h1 := PySem.F.called_set.notType
  have h2 := PySem.F.called_set.canCreate
  have hct := PySem.F.typeCall_set_1 (.ref l)
  repeat (any_goals (first | assumption | wp_step))
  refine codeAny_mono (c_setNew (.ref l) (E := E) (Q₁ := fun obj s₁ => obj = .ref s.heap.objs.size ∧ s₁ = { s with heap := s.heap.push (sobj #[] 0 (.fresh 0 0 (ledW w))) }) ⟨rfl, rfl⟩) fun r s₁ hr => ?_
  cases r with
  | error e => exact hr
  | ok fl =>
    cases fl with
    | ret obj =>
      obtain ⟨rfl, rfl⟩ := hr
      have hS : (s.heap.push (sobj #[] 0 (.fresh 0 0 (ledW w)))).get? s.heap.objs.size = some (sobj #[] 0 (.fresh 0 0 (ledW w))) := zQ09 _ rfl
      have hT : Shared.TypeIs { s with heap := s.heap.push (sobj #[] 0 (.fresh 0 0 (ledW w))) } (.ref s.heap.objs.size) "set" := ⟨_, hS, rfl⟩
      have hli := PySem.F.called_set.init.lookup
      have hbi := PySem.F.called_set.init.bind (.ref s.heap.objs.size)
      repeat (any_goals (first | assumption | wp_step))
      refine codeAny_mono (codeAny_call_builtin (R := wants (fun r s₂ => r = .none ∧ ∃ h' tk ks, s₂ = { s with heap := h', toks := tk } ∧ SetI prog w h' s.heap.objs.size ks ∧ ks.Nodup ∧ (∀ z, z ∈ ks ↔ z ∈ ns) ∧
          (∀ b o, b < s.heap.objs.size → s.heap.get? b = some o → h'.get? b = some o)) E) PySem.F.called_set.init.plain F.entry_set_init (check_set_init_1 hT ?_)) fun r₂ s₂ hr₂ => ?_
      · obtain ⟨ol, hol, hcl, nl, hdl⟩ := hl
        obtain ⟨ocls, odict, odata, oslots⟩ := ol
        simp only at hcl hdl
        subst hcl; subst hdl
        have hol' : (s.heap.push (sobj #[] 0 (.fresh 0 0 (ledW w)))).get? l = some { cls := .type "list", dict := odict, data := .seq items nl, slots := oslots } := zQ01 _ hol
        have hsls := PySem.F.sub_list_set
        have hslf := PySem.F.sub_list_frozenset
        have hne : (Value.type "list" == Value.type "dict") = false := by decide
        have hl1 : (s.heap.push (sobj #[] 0 (.fresh 0 0 (ledW w)))).IsList l items := ⟨_, hol', rfl, nl, rfl⟩
        unfold Builtin.«set.__init__» noKeywords Builtin.Frozenset.updateFrom
        generalize hPI : pyIter = PI
        wp_walk
        subst hPI
        refine wpAny_pyIter_list hl1 (zQ00 (wpAny_runValue ?_))
        have hlS : l < s.heap.objs.size := zQ05 hol
        have hh3 : A.in1.in1.in1.handled = none := by simp [hh]
        have hneI : l ≠ (s.heap.push (sobj #[] 0 (.fresh 0 0 (ledW w)))).objs.size := by rw [zQ20]; exact zQ15 (zQ36 hlS)
        have hSf : s.heap.objs.size ∉ [(s.heap.push (sobj #[] 0 (.fresh 0 0 (ledW w)))).objs.size, l] := by
          rw [zQ20]; simp only [zQ26, zQ27, or_false, not_or]; exact ⟨zQ15 (Nat.lt_succ_self _), Nat.ne_of_gt hlS⟩
        have hlen : ns.length = items.size := by rw [← IntsAre.length hi, Array.length_toList]
        have hval : ∀ (i : Nat) (v : Value), items[i]? = some v → ∃ k t, ns[i]? = some k ∧ v = .int k t := fun i v hv => by
          obtain ⟨t, e⟩ := IntsAre.int_at hi i v (by rw [Array.getElem?_toList]; exact hv)
          have hlt := (Array.getElem?_eq_some_iff.mp hv).1
          refine ⟨_, t, ?_, e⟩
          rw [List.getD_eq_getElem?_getD, zQ03 (by omega)]; rfl
        refine w_updLoop ((Walks.list hh3 _ l hneI items).toS) s.heap.objs.size hSf ns hlen hval hb (items.size - 0) 0 _ [] (by omega) (zQ08 _)
          ⟨⟨_, zQ09 _ rfl, rfl, rfl⟩, (hl1.push _)⟩ ?_ List.nodup_nil (fun z => by simp) (zQ04 _) ?_
        · refine ⟨#[], 0, _, zQ01 _ hS, fun e he => by simp at he, List.Perm.refl _, by decide, rfl, Tbl.fresh _⟩
        · intro s' ks' hm hS' hn' he'
          obtain ⟨h', g', d', tk', os'⟩ := s'
          have eg : g' = s.gens := hm.gens
          have ed : d' = s.drawn := hm.drawn
          have eo : os' = s.os := hm.os
          subst eg ed eo
          refine zQ02 (zQ02 ⟨rfl, h', tk', ks', rfl, hS', hn', he', fun b o hb e => ?_⟩)
          refine hm.heap b o (fun z => ?_) (zQ01 _ (zQ01 _ e))
          rw [zQ20] at z
          rcases List.mem_cons.mp z with z | z
          · exact zQ15 hb z
          · exact zQ15 (zQ36 hb) (List.mem_singleton.mp z)
      · cases r₂ with
        | error e => exact hr₂
        | ok fl₂ =>
          cases fl₂ with
          | ret r =>
            obtain ⟨rfl, h', tk, ks, rfl, q1, q2, q3, q4⟩ := hr₂
            repeat (any_goals (first | assumption | wp_step))
            exact h _ _ _ q1 q2 q3 q4
          | _ => exact hr₂.elim
    | _ => exact hr.elim
end
theorem yf:Slot "set" "__iter__" "set.__iter__":=PySem.F.slot_set_iter
theorem DO:entryFor table "set.__iter__"=some Builtin.«frozenset.__iter__»:=entryFor_alias (id':="frozenset.__iter__") (by kernel_rfl) (by decide+kernel) (by decide+kernel) (by kernel_rfl)
theorem j3:Slot "set_iterator" "__next__" "set_iterator.__next__":= .of (owner:="set_iterator") (n:="__next__") (by rw[typeLookup_type,builtinLookup_eq_fast];kernel_rfl) (by decide+kernel) (by decide+kernel) (by decide+kernel) (by first|exact .inl (by decide+kernel)|exact .inr (by decide+kernel)) (by rw[isSubtype_type];kernel_rfl)
theorem zg:entryFor table "set_iterator.__next__"=some Builtin.«set_iterator.__next__»:=entryFor_of_fast (by kernel_rfl)
theorem yh(a:Value):argsOk "set_iterator.__next__" ⟨[a],[]⟩:=by unfold argsOk;kernel_rfl
theorem yj:Slot "set_iterator" "__iter__" "set_iterator.__iter__":= .of (owner:="set_iterator") (n:="__iter__") (by rw[typeLookup_type,builtinLookup_eq_fast];kernel_rfl) (by decide+kernel) (by decide+kernel) (by decide+kernel) (by first|exact .inl (by decide+kernel)|exact .inr (by decide+kernel)) (by rw[isSubtype_type];kernel_rfl)
theorem De:entryFor table "set_iterator.__iter__"=some Builtin.«dict_keyiterator.__iter__»:=entryFor_alias (id':="dict_keyiterator.__iter__") (by kernel_rfl) rfl (by decide+kernel) (by kernel_rfl)
theorem Cs(a:Value):argsOk "set_iterator.__iter__" ⟨[a],[]⟩:=by unfold argsOk;kernel_rfl
theorem lA{a:Type}:∀{l:List a}{i:Nat}(h:i<l.length),(l[i]::l.eraseIdx i).Perm l|x::l,0,_=>List.Perm.refl _|x::l,i+1,h=>(List.Perm.swap _ _ _).trans (List.Perm.cons _ (lA (Nat.lt_of_succ_lt_succ h)))
theorem rB{a:Type}(next:Nat->Nat):∀(n k:Nat)(left:List a)(out:Array a),left.length=n->(pickOrder.go next n k left out).toList.Perm (out.toList++left)|0,k,left,out,e=>by have :left=[]:=List.length_eq_zero_iff.mp e;subst this;unfold pickOrder.go;simp|n+1,k,left,out,e=>by unfold pickOrder.go;have hl:next k%left.length<left.length:=Nat.mod_lt _ (by omega);rw[zQ03 hl];dsimp only;refine(rB next n (k+1) _ _ (by rw[List.length_eraseIdx_of_lt hl];omega)).trans ?_;rw[Array.toList_push,jR];exact List.Perm.append_left _ (lA hl)
theorem ka{a:Type}(next:Nat->Nat)(xs:Array a):(pickOrder next xs).toList.Perm xs.toList:=by unfold pickOrder;exact(rB next _ 0 xs.toList #[] (by simp)).trans (by simp)
section
variable{prog:Program}{w:World}{A:Around}{E:Value->Shared->Prop}{s:Shared}
theorem uy{src:Source}{n:Nat}{Q:Nat->Shared->Prop}(hn:n≠0)(h:∀i d,i<n->Q i {s with drawn:=d}):wpAny (model prog w) A (choose src n) Q E s:=λ_ _ _=>⟨hn,h _ _ (Nat.mod_lt _ (Nat.pos_of_ne_zero hn))⟩
theorem uw{b:Type}:∀(n:Nat)(xs:List b)(s:Shared)(Q:List b->Shared->Prop),xs.length=n->(∀a d,a.Perm xs->Q a {s with drawn:=d})->wpAny (model prog w) A (drawOrder n xs) Q E s|0,xs,s,Q,e,h=>by have :xs=[]:=List.length_eq_zero_iff.mp e;subst this;unfold drawOrder;exact zQ02 (h [] s.drawn (List.Perm.refl _))|n+1,[],s,Q,e,h=>by simp at e|n+1,x::xs,s,Q,e,h=>by unfold drawOrder;refine zQ00 (uy (by simp) λi d hi=>?_);rw[zQ03 hi];dsimp only;refine zQ00 (uw n _ _ _ (by rw[List.length_eraseIdx_of_lt hi];simp at e⊢;omega) λa d' c=>zQ02 (h _ d' ?_));exact(List.Perm.cons _ c).trans (lA hi)
theorem bA{a:Type}{M:Model}{c:Prop}[Decidable c]{m n:Sem a}{Q:a->Shared->Prop}(h1:c->wpAny M A m Q E s)(h2:¬c->wpAny M A n Q E s):wpAny M A (if c then m else n) Q E s:=by
 by_cases hc:c;·rw[if_pos hc];exact h1 hc
 ·rw[if_neg hc];exact h2 hc
noncomputable abbrev il(first:Value)(i:Nat)(S:Addr)(n ep:Nat):Obj:={cls:= .type "set_iterator",data:= .fields #[first, .int i 0, .ref S, .int n 0, .int ep 0]}
inductive Md(w:World)(es:Array (Int×Value))(ep:Nat)(t:SetTable)(S:Addr)(ord:List Value):Nat->Value->Heap->Prop|txt{i:Nat}{h:Heap}(hb:w.params.followText "set-order"=true)(ho:ord=(pickOrder (w.params.setOrder S ep) es).toList.map (·.2)):Md w es ep t S ord i (.int (0:Nat) 0) h|led{i j:Nat}{h:Heap}(hb:w.params.followText "set-order"=false)(hd:(!t.plain&&decide (es.size>1))=false)(ho:ord=es.toList.map (·.2))(hj:SetTable.below t.place j=i):Md w es ep t S ord i (.int (j:Nat) 0) h|Bf{i:Nat}{h:Heap}{T:Addr}{os:List Nat}(ht:h.get? T=some {cls:= .type "tuple",data:= .seq (os.map λ(k:Nat)=>Value.int k 0).toArray})(hl:ord.length=os.length)(ho:∀(i k:Nat),os[i]?=some k->∃e:Int×Value,es[k]?=some e/\ord[i]?=some e.2):Md w es ep t S ord i (.ref T) h
end
section
variable{prog:Program}{w:World}{A:Around}{E:Value->Shared->Prop}{s:Shared}
noncomputable def Gb(w:World)(es:Array (Int×Value))(ep:Nat)(t:SetTable)(S I:Addr)(ord:List Value)(i:Nat)(s:Shared):Prop:=s.heap.get? S=some (sobj es ep t)/\∃first,s.heap.get? I=some (il first i S es.size ep)/\Md w es ep t S ord i first s.heap
theorem wB{es:Array (Int×Value)}{ep:Nat}{t:SetTable}{S:Addr}{ord:List Value}{i:Nat}{first:Value}{h h':Heap}{fp:List Addr}(m:Md w es ep t S ord i first h)(hT:∀T,first= .ref T->T∈fp)(k:∀b∈fp,∀o,h.get? b=some o->h'.get? b=some o):Md w es ep t S ord i first h':=by cases m with|txt hb ho=>exact .txt hb ho|led hb hd ho hj=>exact .led hb hd ho hj|Bf ht hl ho=>exact .Bf (k _ (hT _ rfl) _ ht) hl ho
theorem t9{d:Type}{f:d->Shared->Prop}{c:Value->Shared->Prop}(hh:A.handled=none)(h:∀h' e o,h'.get? e=some o->o.cls= .type "StopIteration"->(∀b o,s.heap.get? b=some o->h'.get? b=some o)->c (.ref e) {s with heap:=h'}):wpAny (model prog w) A (newExc (.type "StopIteration") []>>=raiseNew:Sem d) f c s:=by refine zQ00 ?_;simp only[newExc,newTuple];refine zQ00 (gd ?_ (by size_fits));refine zQ00 (m:=firstArgMember _ _) (wpAny_of_eq (a:=Value.none) (by first|rfl|(simp only[firstArgMember];rfl)) ?_);refine gd ?_ (by size_fits);simp only[raiseNew];refine zQ00 (wpAny_handled ?_);rw[hh];refine zQ00 (zQ02 (wpAny_throw ?_));exact h _ _ _ (zQ09 _ rfl) rfl λb o e=>zQ01 _ (zQ01 _ e)
theorem pU{xs:Array Nat}(hr:tE xs){i j:Nat}(e:xs[i]?=some j):SetTable.below xs (j+1)=i+1:=by
 obtain⟨hi,f⟩:=Array.getElem?_eq_some_iff.mp e;obtain⟨c,a,b⟩:=jG hr (j+1);have d:xs.getD i 0=j:=by rw[Array.getD_eq_getD_getElem?,e];rfl
 have h1:i<SetTable.below xs (j+1):=by
  rcases Nat.lt_or_ge i (SetTable.below xs (j+1))with z|z;·exact z
  ·have :=b i z hi;omega
 rcases Nat.lt_or_ge (i+1) (SetTable.below xs (j+1))with z|z;·have q1:=a (i+1) z;have q2:=hr.lt (i:=i) (j:=i+1) (by omega) (by omega);omega
 ·omega
theorem tf(hh:A.handled=none){es:Array (Int×Value)}{ep:Nat}{t:SetTable}{S I:Addr}{ord:List Value}{C:List Addr}(g:t.fits es.size=true)(ht:Tbl (ledW w) t)(hlen:ord.length=es.size)(hne:S≠I)(W:I∉C):WalksS prog w A I (I::S::C) [I] (λa b=>b=a) es.size (λi v=>ord[i]?=some v) (λi s=>Gb w es ep t S I ord i s/\∀first T,(s.heap.get? I).map (·.data)=some (.fields #[first, .int i 0, .ref S, .int es.size 0, .int ep 0])->first= .ref T->T∈C)where
 sub:=λb hb=>by rw[List.mem_singleton]at hb;subst hb;exact dj
 grefl:=λ_=>rfl;gtrans:=λ_ _ _ h1 h2=>h2.trans h1;frame:=λi s h' tk st _ n=>by obtain⟨⟨hS,first,c,hm⟩,hT⟩:=st;have N:=n I dj _ c;refine⟨⟨n S (by simp) _ hS,first,N,wB hm (fp:=I::S::C) (λT e=>by simp[hT first T (by rw[c];rfl) e]) n⟩,λf T p F=>?_⟩;rw[N]at p;exact hT f T (by rw[c];exact p) F
 item:=λi s Q E hi st u=>by
  obtain⟨⟨hS,first,c,hm⟩,hT⟩:=st;have l:s.TypeIs (.ref I) "set_iterator":=⟨_,c,rfl⟩;have Y:t.place.size=es.size:=by simp only[SetTable.fits,cu,beq_iff_eq]at g;exact g.1
  unfold pyNext;refine zQ00 (wpAny_attempt (wpAny_callSpecial?_slot (name:=Str.ofString "__next__") l j3 (eG j3 l zg ?_ (yh _))));refine zQ00 (m:=fieldsOf (.ref I)) (wpAny_fieldsOf c rfl ?_);refine zQ00 (wpAny_setEntries_of hS rfl g ?_);refine bA (λz=>absurd z (by simp)) λ_=>?_;have put2:∀(j:Nat)(x:Value)(B:_->Shared->Prop)(M:Value->Shared->Prop),ord[i]?=some x->Md w es ep t S ord (i+1) (.int j 0) s.heap->(∀s',Gb w es ep t S I ord (i+1) s'->(∀first T,(s'.heap.get? I).map (·.data)=some (.fields #[first, .int ((i+1:Nat):Int) 0, .ref S, .int es.size 0, .int ep 0])->first= .ref T->T∈C)->Moved [I] (λa b=>b=a) s s'->B (.done (.ret x)) s')->wpAny (model prog w) A.in1 (do setField (.ref I) 0 (rawInt j);setField (.ref I) 1 (rawInt ((i:Int)+1));ret x) B M s:=by
   intro j x B M hx X k;refine zQ00 (js c (by simp) λh1 G y=>zQ00 (js G (by simp) λh2 V KR=>zQ02 ?_));have H:h2.get? I=some (il (.int j 0) (i+1) S es.size ep):=by rw[V];simp[il,rawInt]
   have D:∀b o,b≠I->s.heap.get? b=some o->h2.get? b=some o:=λb o hb e=>by rw[KR.2 b hb,y.2 b hb];exact e
   refine k {s with heap:=h2} ⟨D S _ hne hS,_,H,?_⟩ (λf T p F=>?_) ⟨λb o hb e=>D b o (λz=>hb (by rw[z];exact List.mem_singleton.mpr rfl)) e,rfl,rfl,rfl,zQ04 _⟩;·cases X with|txt hb ho=>exact .txt hb ho|led hb hd ho hj=>exact .led hb hd ho hj
   ·rw[H]at p;have :=congrArg (λd=>match d with|some (Data.fields vs)=>vs[0]?|_=>none) p;simp at this;rw[F]at this;cases this
  obtain⟨v,hv⟩:∃v,ord[i]?=some v:=⟨_,zQ03 (by omega)⟩;cases hm with
   |txt hb ho=>
    refine zQ00 ?_;unfold setNext;refine zQ00 (wpAny_setState_of hS rfl g (zQ00 (zQ00 (jX (zQ02 ?_)))));refine bA (λ_=>?_) λz=>absurd hb z;refine bA (λz=>absurd z (by simp)) λ_=>?_;refine zQ00 ?_;unfold setWalk;refine zQ00 (wpAny_setState_of hS rfl g (zQ00 (zQ00 (jX (zQ02 ?_)))));refine bA (λ_=>zQ00 (jX (zQ02 ?_))) λz=>absurd hb z;have h:((pickOrder (w.params.setOrder S ep) es)[i]?).map (λe=>(e.2,(0:Nat)))=some (v,0):=by rw[ho,ic,Array.getElem?_toList]at hv;cases q:(pickOrder (w.params.setOrder S ep) es)[i]? with|none=>rw[q]at hv;cases hv|some e=>rw[q]at hv;cases hv;rfl
    refine zQ02 ?_;show wpAny (model prog w) A.in1 (match Option.map (λe=>(e.2,(0:Nat))) (pickOrder (w.params.setOrder S ep) es)[i]? with|some (x,next)=>_|none=>_) _ _ s;rw[h];exact put2 0 v _ _ hv (.txt hb ho) λs' aw r L=>⟨v,rfl,zQ02 (u v s' hv ⟨aw,r⟩ L)⟩
   |led hb hd ho hj=>
    rename_i j;refine zQ00 ?_;unfold setNext;refine zQ00 (wpAny_setState_of hS rfl g (zQ00 (zQ00 (jX (zQ02 ?_)))));refine bA (λz=>absurd (hb.symm.trans z) (by decide)) λ_=>?_;refine bA (λz=>absurd (hd.symm.trans z) (by decide)) λ_=>?_;have K:t.led=true:=by rw[ht.led,ledW,hb];rfl
    refine zQ00 (bA (λz=>absurd z (by rw[K];simp)) λ_=>zQ02 ?_);refine zQ02 ?_;obtain⟨k,n⟩:∃k,t.place[i]?=some k:=⟨_,getElem?_pos _ i (by omega)⟩;have he:∃J,es[i]?=some (J,v):=by rw[ho,ic,Array.getElem?_toList]at hv;cases q:es[i]? with|none=>rw[q]at hv;cases hv|some e=>rw[q]at hv;cases hv;exact⟨e.1,rfl⟩
    obtain⟨J,he⟩:=he;have h:(match es[SetTable.below t.place j]?,t.place[SetTable.below t.place j]? with|some (_,x),some j=>some (x,j+1)|_,_=>none)=some (v,k+1):=by rw[hj,he,n]
    show wpAny (model prog w) A.in1 (match(match es[SetTable.below t.place j]?,t.place[SetTable.below t.place j]? with|some (_,x),some j=>some (x,j+1)|_,_=>none)with|some (x,next)=>_|none=>_) _ _ s;rw[h];exact put2 (k+1) v _ _ hv (.led hb hd ho (pU ht.EN n)) λs' aw r L=>⟨v,rfl,zQ02 (u v s' hv ⟨aw,r⟩ L)⟩
   |Bf r hl ho=>
    rename_i T os;obtain⟨k,n⟩:∃k,os[i]?=some k:=⟨_,zQ03 (by omega)⟩;obtain⟨e,he,R⟩:=ho i k n;rw[R]at hv;refine zQ00 (wpAny_seqItems r rfl ?_);have h:(os.map λ(k:Nat)=>Value.int k 0).toArray[i]?=some (.int k 0):=by rw[List.getElem?_toArray,ic,n];rfl
    show wpAny (model prog w) A.in1 (match(os.map λ(k:Nat)=>Value.int k 0).toArray[i]? with|some (.int place _)=>_|some _=>_|none=>_) _ _ s;rw[h];refine zQ00 ?_;unfold setNextDrawn;refine zQ00 (wpAny_setState_of hS rfl g ?_);refine bA (λz=>absurd z (by simp)) λ_=>?_;show wpAny (model prog w) A.in1 (match es[k]? with|some (_,x)=>_|_=>_) _ _ s;rw[he];refine zQ02 ?_;refine zQ00 (js c (by simp) λh1 G y=>zQ02 ⟨_,rfl,zQ02 ?_⟩);have H:h1.get? I=some (il (.ref T) (i+1) S es.size ep):=by rw[G];simp[il,rawInt]
    have D:∀b o,b≠I->s.heap.get? b=some o->h1.get? b=some o:=λb o hb e=>by rw[y.2 b hb];exact e
    have O:T∈C:=hT _ T (by rw[c];rfl) rfl;refine u _ _ R ⟨⟨D S _ hne hS,_,H, .Bf (D T _ (λz=>W (z▸O)) r) hl ho⟩,λf T' p F=>?_⟩ ⟨λb o hb e=>D b o (λz=>hb (by rw[z];exact List.mem_singleton.mpr rfl)) e,rfl,rfl,rfl,zQ04 _⟩;rw[H]at p;have :=congrArg (λd=>match d with|some (Data.fields vs)=>vs[0]?|_=>none) p;simp at this;rw[F]at this;cases this;exact O
 done:=λs Q E st u=>by
  obtain⟨⟨hS,first,c,hm⟩,hT⟩:=st;have l:s.TypeIs (.ref I) "set_iterator":=⟨_,c,rfl⟩;have Y:t.place.size=es.size:=by simp only[SetTable.fits,cu,beq_iff_eq]at g;exact g.1
  unfold pyNext;refine zQ00 (wpAny_attempt (wpAny_callSpecial?_slot (name:=Str.ofString "__next__") l j3 (eG j3 l zg ?_ (yh _))));refine zQ00 (m:=fieldsOf (.ref I)) (wpAny_fieldsOf c rfl ?_);refine zQ00 (wpAny_setEntries_of hS rfl g ?_);refine bA (λz=>absurd z (by simp)) λ_=>?_;have P:A.in1.handled=none:=hh;have stop:∀(h':Heap)(e:Addr)(o:Obj),h'.get? e=some o->o.cls= .type "StopIteration"->(∀b o,b≠I->s.heap.get? b=some o->h'.get? b=some o)->wpAny (model prog w) A (do if<-isInstance (.ref e) (Value.type "StopIteration")then pure none else throw (Value.ref e)) Q E {s with heap:=h'}:=λh' e o he hc k=>zQ00 (wpAny_isInstance (T:="StopIteration") (b:=true) ⟨o,he,hc⟩ isSubtype_stop (zQ02 (u _ ⟨λb o hb e=>k b o (λz=>hb (by rw[z];exact List.mem_singleton.mpr rfl)) e,rfl,rfl,rfl,zQ04 _⟩)));have fin:∀B,wpAny (model prog w) A.in1 (do setField (.ref I) 2 Value.none;raiseNew (<-newExc (.type "StopIteration") []):Sem Fin) B (λe s'=>wpAny (model prog w) A (do if<-isInstance e (Value.type "StopIteration")then pure none else throw e) Q E s') s:=λB=>by refine zQ00 (js c (by simp) λh1 G y=>t9 P λh2 e o he hc k=>?_);exact stop h2 e o he hc λb o hb e=>k b o (by show h1.get? b=some o;rw[y.2 b hb];exact e)
  cases hm with
   |txt hb ho=>
    refine zQ00 ?_;unfold setNext;refine zQ00 (wpAny_setState_of hS rfl g (zQ00 (zQ00 (jX (zQ02 ?_)))));refine bA (λ_=>?_) λz=>absurd hb z;refine bA (λz=>absurd z (by simp)) λ_=>?_;refine zQ00 ?_;unfold setWalk;refine zQ00 (wpAny_setState_of hS rfl g (zQ00 (zQ00 (jX (zQ02 ?_)))));refine bA (λ_=>zQ00 (jX (zQ02 ?_))) λz=>absurd hb z;have h:((pickOrder (w.params.setOrder S ep) es)[es.size]?).map (λe=>(e.2,(0:Nat)))=none:=by rw[Array.getElem?_eq_none (by rw[<-Array.length_toList,(ka _ es).length_eq,Array.length_toList];exact zQ04 _)];rfl
    refine zQ02 ?_;show wpAny (model prog w) A.in1 (match Option.map (λe=>(e.2,(0:Nat))) (pickOrder (w.params.setOrder S ep) es)[es.size]? with|some (x,next)=>_|none=>_) _ _ s;rw[h];exact fin _
   |led hb hd ho hj=>
    rename_i j;refine zQ00 ?_;unfold setNext;refine zQ00 (wpAny_setState_of hS rfl g (zQ00 (zQ00 (jX (zQ02 ?_)))));refine bA (λz=>absurd (hb.symm.trans z) (by decide)) λ_=>?_;refine bA (λz=>absurd (hd.symm.trans z) (by decide)) λ_=>?_;have K:t.led=true:=by rw[ht.led,ledW,hb];rfl
    refine zQ00 (bA (λz=>absurd z (by rw[K];simp)) λ_=>zQ02 ?_);refine zQ02 ?_;have h:(match es[SetTable.below t.place j]?,t.place[SetTable.below t.place j]? with|some (_,x),some j=>some (x,j+1)|_,_=>none)=none:=by rw[hj,Array.getElem?_eq_none (zQ04 _)]
    show wpAny (model prog w) A.in1 (match(match es[SetTable.below t.place j]?,t.place[SetTable.below t.place j]? with|some (_,x),some j=>some (x,j+1)|_,_=>none)with|some (x,next)=>_|none=>_) _ _ s;rw[h];exact fin _
   |Bf r hl ho=>
    rename_i T os;refine zQ00 (wpAny_seqItems r rfl ?_);have h:(os.map λ(k:Nat)=>Value.int k 0).toArray[es.size]?=none:=by rw[List.getElem?_toArray,List.getElem?_eq_none (by rw[dA];omega)]
    show wpAny (model prog w) A.in1 (match(os.map λ(k:Nat)=>Value.int k 0).toArray[es.size]? with|some (.int place _)=>_|some _=>_|none=>_) _ _ s;rw[h];refine zQ00 (js c (by simp) λJ U Z=>zQ00 (js U (by simp) λh1 G y=>t9 P λh2 e o he hc k=>?_));exact stop h2 e o he hc λb o hb e=>k b o (by show h1.get? b=some o;rw[y.2 b hb,Z.2 b hb];exact e)
 self:=λi s Q E st u=>by obtain⟨⟨hS,first,c,hm⟩,hT⟩:=st;have l:s.TypeIs (.ref I) "set_iterator":=⟨_,c,rfl⟩;exact wpAny_pyIter_slot l yj (eG yj l De (zQ02 ⟨_,rfl,"set_iterator",_,l,j3.lookup,u⟩) (Cs _))
end
section
variable{prog:Program}{w:World}{A:Around}{E:Value->Shared->Prop}{s:Shared}
theorem pY{xs:Array Nat}(hr:tE xs):SetTable.below xs 0=0:=by
 obtain⟨b,a,c⟩:=jG hr 0;rcases Nat.eq_zero_or_pos (SetTable.below xs 0)with z|z;·exact z
 ·have :=a 0 z;omega
theorem tO{S:Addr}{es:Array (Int×Value)}{ep:Nat}{t:SetTable}{Q:Value->Shared->Prop}(hS:s.heap.get? S=some (sobj es ep t))(y:t.fits es.size=true)(ht:Tbl (ledW w) t)(O:es.size<scanBound)(h:∀(h':Heap)(d:Drawn)(I:Addr)(u:List Addr)(ord:List Value),Gb w es ep t S I ord 0 {s with heap:=h',drawn:=d}->(∀first T,(h'.get? I).map (·.data)=some (.fields #[first, .int (0:Nat) 0, .ref S, .int es.size 0, .int ep 0])->first= .ref T->T∈u)->ord.Perm (es.toList.map (·.2))->I∉u->s.heap.objs.size<=I->(∀b,b∈u->s.heap.objs.size<=b)->(∀b,b∈I::S::u->b<h'.objs.size)->(∀b o,s.heap.get? b=some o->h'.get? b=some o)->Q (.ref I) {s with heap:=h',drawn:=d}):wpAny (model prog w) A (pyIter (.ref S)) Q E s:=by
 have F:s.TypeIs (.ref S) "set":=⟨_,hS,rfl⟩;have hlt:S<s.heap.objs.size:=zQ05 hS;refine wpAny_pyIter_slot F yf (eG yf F DO ?_ (PySem.F.args_set_iter_1 _));refine zQ00 (m:=Builtin.Frozenset.slot0 "__iter__" ⟨[.ref S],[]⟩) (zQ02 ?_);refine zQ00 (zQ00 (wpAny_setEntries_of hS rfl y (zQ02 ?_)));refine zQ00 ?_;unfold setDrawn;refine zQ00 (wpAny_setState_of hS rfl y (zQ00 (zQ00 (jX (zQ02 ?_)))));refine zQ02 ?_;have plain:∀(first:Value)(ord:List Value),first= .int (0:Nat) 0->Md w es ep t S ord 0 first s.heap->ord.Perm (es.toList.map (·.2))->∀B,(∀h' d I,Q (.ref I) {s with heap:=h',drawn:=d}->(∃o,h'.get? I=some o/\o.cls= .type "set_iterator")->B (.done (.ret (.ref I))) {s with heap:=h',drawn:=d})->wpAny (model prog w) A.in1 (do ret (<-newFields "set_iterator" [first,rawInt 0, .ref S,rawInt es.size,rawInt (<-setEpoch S)])) B E s:=by
  intro first ord p N j B k;subst p;refine zQ00 (wpAny_setEpoch_of hS rfl y (zQ00 (gd (zQ02 ?_))));have g:(s.heap.push (il (.int (0:Nat) 0) 0 S es.size ep)).get? s.heap.objs.size=some (il (.int (0:Nat) 0) 0 S es.size ep):=zQ09 _ rfl;refine k (s.heap.push (il (.int (0:Nat) 0) 0 S es.size ep)) s.drawn s.heap.objs.size (h _ _ _ [] ord ⟨zQ01 _ hS,_,g,?_⟩ (λf T a n=>?_) j (by simp) (zQ04 _) (λb hb=>by simp at hb) (λb hb=>?_) λb o e=>zQ01 _ e) ⟨_,g,rfl⟩;·cases N with|txt hb ho=>exact .txt hb ho|led hb hd ho hj=>exact .led hb hd ho hj
  ·rw[g]at a;have :=congrArg (λd=>match d with|some (Data.fields vs)=>vs[0]?|_=>none) a;simp at this;rw[n]at this;cases this
  ·rw[zQ20];rcases List.mem_cons.mp hb with z|z;·rw[z];exact Nat.lt_succ_self _
   ·rw[List.mem_singleton.mp z];exact zQ36 hlt
 have fin:∀h' d I,Q (.ref I) {s with heap:=h',drawn:=d}->(∃o,h'.get? I=some o/\o.cls= .type "set_iterator")->∃v,PySem.Fin.done (.ret (.ref I))=PySem.Fin.done (.ret v)/\∃T r,Shared.TypeIs {s with heap:=h',drawn:=d} v T/\typeLookup (.type T) (Str.ofString "__next__")=pure (some r)/\Q v {s with heap:=h',drawn:=d}:=λh' d I q⟨o,a,n⟩=>⟨_,rfl,"set_iterator",_,⟨o,a,n⟩,j3.lookup,q⟩;cases hb:w.params.followText "set-order"with
  |true=>
   refine bA (λz=>?_) λ_=>?_;·exfalso;have :(!w.params.followText "set-order"&&(!t.plain&&decide (es.size>1)))=true:=z;rw[hb]at this;cases this
   ·refine zQ00 (zQ02 ?_);exact plain _ _ rfl (.txt hb rfl) ((ka _ es).map _) _ λh' d I q o=>fin h' d I q o
  |false=>
   refine bA (λz=>?_) λz=>?_
   ·refine zQ00 (uw es.size (List.range es.size) _ _ (by simp) λos d j=>?_);refine zQ00 (m:=newTuple (os.map λ(i:Nat)=>rawInt i)) ?_;refine gd ?_ (by show(os.map λ(i:Nat)=>rawInt i).toArray.size<=_;rw[bY,dA,j.length_eq,List.length_range];exact fits_of_scanBound O);have D:=zQ01 {cls:= .type "tuple",data:= .seq (os.map λ(i:Nat)=>rawInt i).toArray} hS;refine zQ00 (wpAny_setEpoch_of D rfl y (zQ00 (gd (zQ02 ?_))));have hol:os.length=es.size:=by rw[j.length_eq,List.length_range]
    have H:∀i k,os[i]?=some k->k<es.size:=λi k e=>by obtain⟨l,K⟩:=List.getElem?_eq_some_iff.mp e;have :=j.mem_iff.mp (K▸List.getElem_mem l);exact List.mem_range.mp this
    obtain⟨ord,G⟩:∃ord,ord=os.filterMap (λk=>(es.toList.map (·.2))[k]?):=⟨_,rfl⟩;have p:(es.toList.map (·.2)).length=es.size:=by rw[dA,Array.length_toList]
    have J:ord.Perm (es.toList.map (·.2)):=by rw[G];refine(j.filterMap _).trans (List.Perm.of_eq ?_);rw[<-p];exact List.filterMap_getElem?_range_length _
    have M:∀(l:List Nat),(∀k,k∈l->k<es.size)->∀(i k:Nat),l[i]?=some k->(l.filterMap (λk=>(es.toList.map (·.2))[k]?))[i]?=(es.toList.map (·.2))[k]?:=by intro l;induction l with|nil=>intro _ i k e;simp at e|cons x l P=>intro hl i k e;have R:=hl x dj;rw[lQ,zQ03 (l:=es.toList.map (·.2)) (i:=x) (by omega)];cases i with|zero=>simp at e;subst e;rw[zQ03 (l:=es.toList.map (·.2)) (i:=x) (by omega)];rfl|succ i=>exact P (λk c=>hl k (d9 _ c)) i k (by simpa using e)
    have C:((s.heap.push {cls:= .type "tuple",data:= .seq (os.map λ(i:Nat)=>rawInt i).toArray}).push (il (.ref s.heap.objs.size) 0 S es.size ep)).get? (s.heap.push {cls:= .type "tuple",data:= .seq (os.map λ(i:Nat)=>rawInt i).toArray}).objs.size=some (il (.ref s.heap.objs.size) 0 S es.size ep):=zQ09 _ rfl;have L:((s.heap.push {cls:= .type "tuple",data:= .seq (os.map λ(i:Nat)=>rawInt i).toArray}).push (il (.ref s.heap.objs.size) 0 S es.size ep)).get? s.heap.objs.size=some {cls:= .type "tuple",data:= .seq (os.map λ(i:Nat)=>rawInt i).toArray}:=zQ01 _ (zQ09 _ rfl);refine fin _ d (s.heap.push {cls:= .type "tuple",data:= .seq (os.map λ(i:Nat)=>rawInt i).toArray}).objs.size (h ((s.heap.push {cls:= .type "tuple",data:= .seq (os.map λ(i:Nat)=>rawInt i).toArray}).push (il (.ref s.heap.objs.size) 0 S es.size ep)) d _ [s.heap.objs.size] ord ⟨zQ01 _ D,_,C, .Bf L ?_ ?_⟩ (λf T a n=>?_) J ?_ ?_ (λb hb=>by rw[List.mem_singleton.mp hb];exact zQ04 _) (λb hb=>?_) λb o e=>zQ01 _ (zQ01 _ e)) ⟨_,C,rfl⟩;·rw[J.length_eq,p,hol]
    ·intro i k e;have c:=H i k e;refine⟨es[k],getElem?_pos es k c,?_⟩;rw[G,M os (λk c=>by obtain⟨i,hi,e⟩:=lX c;exact H i k (by rw[zQ03 hi,e])) i k e,ic,Array.getElem?_toList,getElem?_pos es k c];rfl
    ·rw[C]at a;have :=congrArg (λd=>match d with|some (Data.fields vs)=>vs[0]?|_=>none) a;simp at this;rw[n]at this;cases this;exact List.mem_singleton.mpr rfl
    ·rw[zQ20,List.mem_singleton];exact Nat.ne_of_gt (Nat.lt_succ_self _)
    ·rw[zQ20];exact Nat.le_succ _
    ·rw[zQ20,zQ20];rcases List.mem_cons.mp hb with z|z;·rw[z,zQ20];exact Nat.lt_succ_self _
     ·rcases List.mem_cons.mp z with z|z;·rw[z];exact zQ36 (zQ36 hlt)
      ·rw[List.mem_singleton.mp z];exact zQ36 (Nat.lt_succ_self _)
   ·refine zQ00 (zQ02 ?_);have hd:(!t.plain&&decide (es.size>1))=false:=by have :¬(!w.params.followText "set-order"&&(!t.plain&&decide (es.size>1)))=true:=z;rw[hb]at this;simpa using this
    exact plain _ _ rfl (.led hb hd rfl (pY ht.EN)) (List.Perm.refl _) _ λh' d I q o=>fin h' d I q o
end
theorem xK:typeLookup (.type "set") "__len__"=pure (some (.builtin "set.__len__")):=by rw[typeLookup_type,builtinLookup_eq_fast];kernel_rfl
theorem wL:splitId "set.__len__"=some ("set","__len__"):=by decide+kernel
section
variable{prog:Program}{w:World}{A:Around}{E:Value->Shared->Prop}{s:Shared}
theorem kH{S:Addr}{ks:List Int}{Q:List Value->Shared->Prop}(hh:A.handled=none)(hS:SetI prog w s.heap S ks)(h:∀h' d tk vs ns,IntsAre vs ns->ns.Perm ks->s.heap.objs.size<=h'.objs.size->(∀b o,s.heap.get? b=some o->h'.get? b=some o)->Q vs {s with heap:=h',drawn:=d,toks:=tk}):wpAny (model prog w) A (collect (.ref S)) Q E s:=by
 obtain⟨es,ep,t,r,R,V,G,y,ht⟩:=hS;have hlt:S<s.heap.objs.size:=zQ05 r;unfold collect;refine zQ00 (wpAny_runValue (codeAny_builtin F.entry_proto_collect ?_));rw[Around.under_plainId F.plain_proto_collect _];refine zQ00 (m:=newList []) (gd ?_);refine zQ02 ⟨plainId_quiet F.plain_list_iadd _,codeAny_builtin F.entry_list_iadd ?_⟩;rw[Around.under_plainId F.plain_list_iadd _];obtain⟨lo,Z⟩:∃lo:Obj,lo={cls:= .type "list",data:= .seq ([]:List Value).toArray}:=⟨_,rfl⟩;show wpAny _ A.in1 (Builtin.List.listExtendWith (.ref s.heap.objs.size) (.ref S) (.ref s.heap.objs.size)) _ _ _;unfold Builtin.List.listExtendWith;have u:(s.heap.push {cls:= .type "list",data:= .seq ([]:List Value).toArray}).get? S=some (sobj es ep t):=zQ01 _ r;refine zQ00 (wpAny_typeOf (T:="set") ⟨_,u,rfl⟩ ?_);have h1:Builtin.List.listSameRef (.ref s.heap.objs.size) (.ref S)=false:=by simp[Builtin.List.listSameRef];exactλz=>Nat.lt_irrefl _ (z▸hlt)
 rw[if_neg (by rw[h1];decide)];refine zQ00 (tO u y ht G λh2 d I M ord D hT g N a B Y C=>?_);have l:h2.get? s.heap.objs.size=some {cls:= .type "list",data:= .seq ([]:List Value).toArray}:=C _ _ (zQ09 _ rfl);have hne:S≠I:=λz=>by rw[zQ20]at a;rw[<-z]at a;exact Nat.lt_irrefl _ (dk hlt (bM (Nat.le_succ _) a))
 have c:Shared.TypeIs {s with heap:=h2,drawn:=d} (.ref S) "set":=⟨_,D.1,rfl⟩;refine zQ00 (d8 ?_);unfold Builtin.List.listLengthHint;refine zQ00 (wpAny_specialOf c xK ?_);(generalize f:("set.__len__":String)=H;(fail_if_success(clear f H));wp_delta;rw[show splitId H=some ("set","__len__")from by subst f;exact wL];subst f);refine zQ00 (wpAny_isInstance (b:=true) c sub_set_self ?_);refine bA (λz=>nomatch z) λ_=>?_;refine bA (λ_=>?_) λz=>absurd (by decide+kernel) z;refine zQ00 (wpAny_typeOf c (zQ02 ?_));refine bA (λ_=>?_) λz=>absurd (by decide+kernel) z;refine zQ00 (wpAny_rule (zQ00 ?_));refine zQ00 (m:=updateSeq s.heap.objs.size (·.push .none)) (wpAny_updateSeq l rfl ?_);have p:=Heap.get?_update_self (Obj.mapSeq (·.push Value.none)) l rfl;refine wpAny_updateSeq p rfl ?_;have O:=Heap.get?_update_self (Obj.mapSeq (·.pop)) p rfl;have J:∀b o,b≠s.heap.objs.size->h2.get? b=some o->((h2.update s.heap.objs.size (Obj.mapSeq (·.push Value.none))).update s.heap.objs.size (Obj.mapSeq (·.pop))).get? b=some o:=λb o hb e=>(pH _ _ (Ne.symm hb)).trans ((pH _ _ (Ne.symm hb)).trans e);have hSf:s.heap.objs.size∉I::S::M:=λz=>by
  rw[zQ20]at a B;rcases List.mem_cons.mp z with z|z;·rw[<-z]at a;exact Nat.lt_irrefl _ a
  ·rcases List.mem_cons.mp z with z|z;·rw[<-z]at hlt;exact Nat.lt_irrefl _ hlt
   ·exact Nat.lt_irrefl _ (B _ z)
 have hlen:ord.length=es.size:=by rw[g.length_eq,dA,Array.length_toList]
 have W:=tf (prog:=prog) (A:=A.in1) hh y ht hlen hne N (ep:=ep);refine zQ02 ⟨plainId_quiet F.plain_extend_loop _,codeAny_extend_loopS W (fits_of_scanBound G) _ hSf _ es.size 0 _ _ _ (by omega) (zQ08 _) (W.frame 0 {s with heap:=h2,drawn:=d} _ s.toks ⟨D,hT⟩ (zQ04 _) λb hb o e=>J b o (λz=>hSf (z▸hb)) e) O (ItemsOf.nil _) λs' i X hm hS' x=>?_⟩;refine zQ00 (m:=load s.heap.objs.size) (wpAny_load hS' (zQ02 ?_));have L:i.toList=ord:=by refine List.ext_getElem? λj=>?_;rw[Array.getElem?_toList];cases q:i[j]? with|some v=>exact(x.2 j v q).symm|none=>have :=Array.getElem?_eq_none_iff.mp q;rw[List.getElem?_eq_none (by rw[hlen,<-x.1];exact this)]
 obtain⟨h',g',d',tk',os'⟩:=s';have eg:g'=s.gens:=hm.gens;have ed:d'=d:=hm.drawn;have eo:os'=s.os:=hm.os;subst eg ed eo;have hints:∀v,v∈ord->∃n t,v= .int n t:=λv hv=>by obtain⟨e,he,rfl⟩:=List.mem_map.mp (g.mem_iff.mp hv);obtain⟨⟨k,U,_⟩,_⟩:=R e he;obtain⟨t,K⟩:=Value.isInt_shape U;exact⟨k,t,K⟩
 rw[L];refine h h' d' tk' ord (ord.map numOf) (intsAre_map ord hints) ?_ (Nat.le_of_lt (zQ05 hS')) λb o e=>?_;·refine(g.map numOf).trans ?_;rw[List.map_map];exact V
 ·have hb:b≠s.heap.objs.size:=zQ15 (zQ05 e);have P:b≠I:=λz=>by rw[zQ20]at a;exact Nat.lt_irrefl _ (dk (zQ05 e) (bM (Nat.le_succ _) (z▸a)))
  exact hm.heap b o (λz=>by
   rcases List.mem_cons.mp z with z|z;·exact hb z
   ·exact P (List.mem_singleton.mp z)) (J b o hb (C b o (zQ01 _ e)))
end
section
variable{prog:Program}{w:World}{A:Around}{E:Value->Shared->Prop}{s:Shared}
theorem vo{vs:List Value}{ns:List Int}(a:IntsAre vs ns):kl (pairsOf vs)=ns:=by
 unfold kl;rw[pairsOf_toList];have :(vs.zip vs).map kv=((vs.zip vs).map Prod.fst).map numOf:=by rw[List.map_map];rfl
 rw[this,List.map_fst_zip (zQ04 _),a.nums]
theorem oQ{a:Addr}{vs:List Value}{ns:List Int}{n:Nat}{P:PySem.Fin->Shared->Prop}(ho:s.heap.get? a=some (seqObj "list" vs.toArray n))(d:IntsAre vs ns)(u:ns.Nodup)(hl:vs.length<128)(h:∀(out:Array Value)(f:List Int),IntsAre out.toList f->f.Perm ns->f.Pairwise (·<=·)->P (.done (.ret .none)) {s with heap:=sortedHeap s.heap a vs out}):wpAny (model prog w) A (Builtin.«list.sort» ⟨[.ref a],[]⟩) P E s:=by
 by_cases k:vs.length<64;·exact list_sort_tree ho d k h
 rw[list_sort_plain];have ha:a<s.heap.objs.size:=zQ05 ho;refine zQ00 (listItems_at ho rfl (zQ00 (listUpdate_at ho rfl ?_ (by rw[bY,sizeLine_eq];omega))));obtain⟨g,l⟩:∃g,(s.heap.update a (Obj.mapSeq λ_=>#[])).get? a=some (seqObj "list" #[] g):=⟨_,get?_update_seq ho (λ_=>#[])⟩;refine zQ00 (seqEpoch_at l rfl (zQ00 (wpAny_newTuple ?_ (by show vs.length<=_;rw[sizeLine_eq];omega))));refine zQ00 (wpAny_newList (d8 ?_));have m:(((s.heap.update a (Obj.mapSeq λ_=>#[])).push (seqObj "tuple" vs.toArray 0)).push (seqObj "list" #[] 0)).get? a=some (seqObj "list" #[] g):=zQ01 _ (zQ01 _ l);show wpAny (model prog w) A _ P E {s with heap:=((s.heap.update a (Obj.mapSeq λ_=>#[])).push (seqObj "tuple" vs.toArray 0)).push (seqObj "list" #[] 0)};dsimp only;have x:vs.toArray.size=vs.length:=by simp
 rw[if_neg (by omega),if_neg (by omega)];obtain⟨b,c,rest,rfl⟩:∃b c rest,vs=b::c::rest:=by match vs,k with|[],q=>simp at q|[_],q=>simp at q|b::c::rest,_=>exact⟨b,c,rest,rfl⟩
 rw[keyKind_ints d];refine zQ00 (zQ02 ?_);refine zQ00 (wpAny_mono (oW (a₀:=pairsOf (b::c::rest)) (st:=SortSt.mk' oneType' ((b::c::rest).toArray.zip (b::c::rest).toArray) #[] 7 none) (Q:=λ_ aw=>(arrOf aw).Perm (pairsOf (b::c::rest))/\failedOf aw=none/\dg (arrOf aw) 0 (pairsOf (b::c::rest)).size) d.intKeys (by rw[vo d];exact u) ⟨Array.Perm.refl _,rfl,rfl,rfl⟩ (by rw[pairsOf_size];omega) (by rw[pairsOf_size];exact hl) λaw a1 a2 a3=>⟨a1,a2,a3⟩) ?_ λ_ _ e=>e);rintro⟨⟨⟩,aw⟩s'⟨rfl,o,t,v⟩;dsimp only;refine zQ00 (seqEpoch_at m rfl ?_);refine zQ00 (listUpdate_at m rfl ?_ (hsz2:=by refine bM (Nat.le_of_eq ((Array.size_map ..).trans (o.size_eq.trans (pairsOf_size _)))) ?_;rw[sizeLine_eq];omega));rw[t];simp only[bne_self_eq_false,eW,if_false];obtain⟨f,q1,q2,q3⟩:=sorted_out d o λi j p r=>v i j (zQ08 _) p r;exact zQ02 (h _ f q1 q2 q3)
theorem nG{S:Addr}{ks:List Int}{Q:Value->Shared->Prop}(hh:A.handled=none)(hS:SetI prog w s.heap S ks)(l:ks.Nodup)(hl:ks.length<128)(h:∀h' d tk a(vs:List Value)(ns:List Int)(e:Nat),h'.get? a=some (seqObj "list" vs.toArray e)->s.heap.objs.size<=a->IntsAre vs ns->ns.Perm ks->ns.Pairwise (·<=·)->(∀b o,s.heap.get? b=some o->h'.get? b=some o)->Q (.ref a) {s with heap:=h',drawn:=d,toks:=tk}):wpAny (model prog w) A (call (.builtin "sorted") [.ref S]) Q E s:=by
 refine Calls.call_function_entry kind_sorted plain_sorted entry_sorted (args_sorted1 _) ?_;unfold Builtin.«sorted»;refine zQ00 (m:=checkCount "sorted" 1 1 _) (zQ02 ?_);refine zQ00 (kH (A:=A.in1) hh hS λh' d tk vs ns g f k j=>?_);have p:vs.length=ks.length:=by rw[IntsAre.length g,f.length_eq]
 refine zQ00 (wpAny_newList ?_ (by show vs.length<=_;rw[sizeLine_eq];omega));have c:(h'.push (seqObj "list" vs.toArray 0)).get? h'.objs.size=some (seqObj "list" vs.toArray 0):=zQ09 _ rfl;refine zQ00 (d8 (eG slot_list_sort ⟨_,c,rfl⟩ entry_list_sort (oQ c g (f.nodup_iff.mpr l) (by omega) λout n a1 a2 a3=>⟨_,rfl,?_⟩) (args_list_sort _)));refine zQ02 ⟨_,rfl,?_⟩;obtain⟨e,he⟩:=sortedHeap_at (out:=out) c;refine h _ d tk h'.objs.size out.toList n e (by simpa using he) k a1 (a2.trans f) a3 λb o i=>?_;have hb:=j b o i;rw[sortedHeap_old (zQ15 (zQ05 hb)) (by rw[size_push'];exact zQ36 (zQ05 hb))];exact zQ01 _ hb
end
end SR
end
section
namespace L3
open PySem PySem.Spec PyProof.Rows L2 KM
end L3
end
section
namespace L3
open PySem PySem.Spec PyProof.Rows L2
theorem xP{X:Cx}{ix:Nat}{x:Str}{pos' apos:Pos}{tg iter G:Expr}{K:List Expr}{scope:Scope}{pos:Pos}{wi:TI}{g:TG}{tt:TT}{te:TE}{N':List Str}{own:Nat}{fr:List Nat}(hN:X.N.Nodup)(FL:X.N[ix]?=some x)(Jq:X.env.scope.names.lookup x=some .local)(hc:X.calm=true)(S:fE X N' own fr scope)(hi:PI X tg iter wi)(ho:Own own g)(hg:∀E B fp,PG (bP X N' scope E B fp) tg g)(hf:∀E B fp,uv (bP X N' scope E B fp) K tt)(he:∀E B fp,PE (bP X N' scope E B fp) G te)(J8:swapsWithSole [.Name x pos'] (.ListComp G [⟨tg,iter,K,0⟩] scope pos) apos.line X.env=pure true:=by rfl)(hs:∀x,foldedSetIterable iter X.env x=pure x:=by intro _;rfl):PS X (.Assign [.Name x pos'] (.ListComp G [⟨tg,iter,K,0⟩] scope pos) apos) (A9 (xY own fr wi g tt te) (kq ix)):=by
 intro pins s σ H D I h;have wt:∀x∈scope.names,x.2= .free->∃c,X.env.cells.lookup x.1=some c:=λx hx e=>I.ok.has x.1 (S.free x hx e);rw[exec_Assign_arm];refine zQ00 (wpAny_standAt (zQ00 (wpAny_of_eq J8 ?_)));rw[if_pos rfl,arm_evalThenUse_ListComp];refine zQ00 (zQ00 (wpAny_mono (Q:=λ_ s'=>SP X pins D .next s') ?_ (λ_ s' q=>zQ02 (zQ02 q)) λ_ _ z=>z));refine wpAny_comprehension_free (use:=some _) (Q:=λ_ s'=>SP X pins D .next s') rfl hs (i_ wt) S.kind S.loc ?_;refine bp (hi pins s σ H _ I h) λv s1 h1=>bp h1 λE5 s2 h2=>?_;obtain⟨it,fp,tn,J,d,e,I2,T,bq,f2,h2⟩:=h2;subst e;refine gd (hd:=by size_fits) (wpAny_newFunctionEnv S.oV (by intro y hy;simp at hy) (λh4 V Z=>?_) S.kind);have mB:=I2.bD.fresh (zQ04 s2.heap.objs.size);obtain⟨W,⟨m0,w0⟩,turn⟩:=h2 _ mB;have k:Inv X pins σ (upd d s2.heap.objs.size (.lst [])) {s2 with heap:=s2.heap.push {cls:= .type "list",dict:=none,data:= .seq ([]:List Value).toArray},toks:=s2.toks}:=I2.wO .nil (zQ08 _);have Ds:∀b∈fp,b<s2.heap.objs.size:=λb hb=>let⟨o,e,_⟩:=T.obj _ _ bq b hb;zQ05 e;have FQ:∀b o,s2.heap.get? b=some o->∀ob:Obj,(s2.heap.push ob).get? b=some o:=λb o e ob=>zQ01 _ e;have BG:(s2.heap.push {cls:= .type "list",dict:=none,data:= .seq ([]:List Value).toArray}).objs.size=s2.heap.objs.size+1:=zQ20 ..;revert V Z k;generalize e3:s2.heap.push {cls:= .type "list",dict:=none,data:= .seq ([]:List Value).toArray}=h3 at BG⊢;intro V Z k;have keep:∀b o,h3.get? b=some o->h4.get? b=some o:=λb o e=>(Z.2 b (zQ15 (zQ05 e))).trans (zQ01 _ e);have R:∀b∈fp,f_ X pins (upd d s2.heap.objs.size (.lst [])) b/\b<h3.objs.size:=λb hb=>by refine⟨⟨?_,(f2 b hb).2⟩,by rw[BG];exact zQ36 (Ds b hb)⟩;rw[aG (zQ15 (Ds b hb))];exact(f2 b hb).1
 have F:=qS (t4:=s2.toks+([]:List (Str×Value)).length) S k R keep V;have Af:tn 0 h4:=T.keep _ _ _ bq λb hb o e=>keep b o (by rw[<-e3];exact FQ b o e _);have jF:∀{H':Hp},(∀b∈fp,H' b=none)->∀b∈fp,f_ (bP X N' scope {s2 with heap:=h3,toks:=s2.toks} (upd d s2.heap.objs.size (.lst [])) fp) [] H' b:=λ{H'}hn b hb=>⟨hn b hb,zQ15 (R b hb).2,λz=>F.ok.sV b hb z, .inl hb,(F.ok.ET b hb).2,λp Y=>(f2 b hb).2.2.2.2.2 p (kY _ (by simpa using Y))⟩;have loop:∀M:Shared,Inv (bP X N' scope {s2 with heap:=h3,toks:=s2.toks} (upd d s2.heap.objs.size (.lst [])) fp) [] (dw own fr σ) (upd d s2.heap.objs.size (.lst [])) M->tn 0 M.heap->codeAny (model X.prog X.w) X.A (.compLoop (.ListComp G [⟨tg,iter,K,0⟩] scope pos) 0 (.ref it) (.ref s2.heap.objs.size) (pE X scope h3.objs.size)) (compPost (model X.prog X.w) X.A X.xe (some λv=>assignAll v ((assignEach [.Name x pos'] X.env).map (·.2))) (λ_ s'=>SP X pins D .next s') (.ref s2.heap.objs.size) h3.objs.size) M:=by
  intro M Ix tx;refine gH (λn s'=>∃i t H',Inv (bP X N' scope {s2 with heap:=h3,toks:=s2.toks} (upd d s2.heap.objs.size (.lst [])) fp) [] (dw own fr σ) H' s'/\tn i s'.heap/\(∀b∈fp,H' b=none)/\W i n t H') ?_ m0 ⟨0,[],_,Ix,tx,λb hb=>(R b hb).1.1,w0⟩;rintro n s5⟨i,t,C,I5,xJ,zX,w5⟩;rcases turn i n t C w5 with⟨stop,qn⟩|⟨go,step⟩
  ·refine bp (T.done (bP X N' scope {s2 with heap:=h3,toks:=s2.toks} (upd d s2.heap.objs.size (.lst [])) fp) rfl rfl rfl hc i [] s5 _ C (λ_ _=>False) I5 (jF zX) xJ stop) λr L a=>?_;obtain⟨hr,w⟩:=a;subst hr;obtain⟨m6,HF,_⟩:=id w.loc;have O:Inv X pins σ C L:=k.ya (s':=L) (ch:=fp) w.os (iF (h2:=L.heap) w.base (zQ04 _) ⟨rfl,λ_ _=>rfl⟩) w.bD w.bare λb hb=>⟨(f2 b hb).2.2.2.1,(f2 b hb).2.1,(f2 b hb).2.2.2.2.1,(f2 b hb).2.2.2.2.2⟩;show wpAny _ _ (assign (.Name x pos') X.env (.ref s2.heap.objs.size)) _ _ _;refine wpAny_assign_Name (ke (v:= .ref s2.heap.objs.size) O hN FL (.inl Jq) rfl (λs8 P a=>?_) (.inr Jq));obtain⟨a8,J2,JM⟩:=a;have Iu:∀y c,X.env.cells.lookup y=some c->c<h3.objs.size:=λy c e=>by obtain⟨v,o,eo,_⟩:=k.cell y c e;exact zQ05 eo
   have KI:h3.objs.size≠a8:=by
    rcases JM with z|z;·rw[z];exact Nat.ne_of_gt k.lt
    ·exact Nat.ne_of_gt (Iu _ _ z)
   obtain⟨o6,K_,FN,EV,r6⟩:=HF;refine⟨m6,⟨o6,K_,FN,(J2.2 _ KI).trans EV,r6⟩,λh9 JO=>?_⟩;have l:=P.turned (h':=h9) (t':=s8.toks) (it:=h3.objs.size) (λb o hb e=>(JO.2 b hb).trans e) w.free (Nat.ne_of_gt k.lt) (.inr k.sz) (λy c e=>zQ15 (Iu y c e)) λp Y=>zQ15 (zQ05 (k.pin p Y).1);exact⟨_,C,l,qn⟩
  ·refine bp (T.item (bP X N' scope {s2 with heap:=h3,toks:=s2.toks} (upd d s2.heap.objs.size (.lst [])) fp) rfl rfl rfl hc i [] s5 _ C (λ_ _=>False) I5 (jF zX) xJ go) λr L a=>?_;obtain⟨u,hr,h6⟩:=a;subst hr;refine bp h6 λ_ s7 a=>?_;obtain⟨x,H7,O,r7,y7,AA,GK⟩:=a;have G6:=O.pinned (jF GK) (T.obj _ _ AA);refine bp (hg _ _ _ _ s7 _ H7 x u _ G6 r7 (ho _ _ _ _ (step x H7 y7))) λ_ s8 a=>?_;obtain⟨N,H8,P,q8,l8,k8⟩:=a;have again:∀{m:Hp}{A:Shared},Inv (bP X N' scope {s2 with heap:=h3,toks:=s2.toks} (upd d s2.heap.objs.size (.lst [])) fp) ([]++gE fp s7.heap) N m A->Inv (bP X N' scope {s2 with heap:=h3,toks:=s2.toks} (upd d s2.heap.objs.size (.lst [])) fp) [] (dw own fr σ) m A/\tn (i+1) A.heap/\∀b∈fp,m b=none:=λ{m A}l=>by
    refine⟨l.eJ.weak l8.symm λj v e=>?_,T.keep _ _ _ AA λb hb o e=>(l.pin (b,o) (fh _ (fh _ (cA hb e)))).1,λb hb=>?_⟩
    ·have hj:own<=j:=by refine Nat.le_of_not_lt λz=>?_;unfold dw at e;rw[List.getElem?_append_left (by simpa using z),List.getElem?_replicate]at e;split at e<;>cases e
     rw[k8 j hj];exact e
    ·obtain⟨o,e,_⟩:=T.obj _ _ AA b hb;exact(l.pin (b,o) (fh _ (fh _ (cA hb e)))).2.1
   refine bp (hf _ _ _ _ s8 N H8 _ P q8) λok A a=>?_;obtain⟨m,l,q9⟩:=a;cases ok with|false=>obtain⟨m',U,w9⟩:=q9;obtain⟨a1,a2,a3⟩:=again l;exact⟨m',U,i+1,t,m,a1,a2,a3,w9⟩|true=>refine bp (he _ _ _ _ A N m _ l q9) λy FZ a=>?_;obtain⟨v,B6,Fw,GG,Aw,AM,m',U,G5⟩:=a;refine bp (gD _ FZ N B6 (.ref s2.heap.objs.size) [v] (.ref s2.heap.objs.size) [y] (λ_ Hn=>Hn=upd B6 s2.heap.objs.size (.lst (t++[v]))) Fw rfl (.cons GG .nil) ⟨_,t,v,rfl,rfl,Aw,AM,rfl⟩) λ_ J4 a=>?_;obtain⟨_,JI,F9,_,Ha⟩:=a;subst Ha;obtain⟨a1,a2,a3⟩:=again F9;exact⟨m',U,i+1,t++[v],_,a1,a2,a3,G5⟩
 exact codeAny_compStart_list (loop _ F Af) (wpAny_mono (T.self X.A 0 _ (λv s'=>v= .ref it/\s'=_) (λ_ _=>False) Af ⟨rfl,rfl⟩) (λv s'⟨e1,e2⟩=>by subst e1;subst e2;exact loop _ F Af) λ_ _ f=>f.elim)
end L3
end
section
namespace L3
open PySem PySem.Spec PyProof.Rows L2 KM
theorem gB(a:List Int):∀x∈a.map V.int,dZ x=true:=λx h=>by obtain⟨i,_,rfl⟩:=List.mem_map.mp h;rfl
section
variable{X:Cx}
end
section
variable{X:Cx}{pins:List (Addr×Obj)}{σ:L2.St}{H:Hp}{s:Shared}{a:Addr}{D:List (Str×V)}{k:Str}{tk:Tok}{A:Around}{E:Value->Shared->Prop}
end
mutual noncomputable def Bc:D->PyData| .bj=> .none| .bl b=> .bool b| .int i=> .int i| .str x=> .str x| .tup ds=> .tuple (Au ds)noncomputable def Au:List D->List PyData|[]=>[]|d::ds=>Bc d::Au ds end
mutual theorem mQ:∀d:D,(Bc d).depth<=depth d| .bj=>zQ08 _| .bl _=>zQ08 _| .int _=>zQ08 _| .str _=>zQ08 _| .tup ds=>by show PyData.depthAll (Au ds)+1<=1+aF ds;have :=kx ds;lia theorem kx:∀ds:List D,PyData.depthAll (Au ds)<=aF ds|[]=>zQ08 _|d::ds=>by show max (Bc d).depth (PyData.depthAll (Au ds))<=max (depth d) (aF ds);have h1:=mQ d;have h2:=kx ds;lia end
section
variable{X:Cx}{pins:List (Addr×Obj)}{σ:L2.St}{H:Hp}{s:Shared}
end
mutual noncomputable def xB:D->Bool| .bj=>true| .bl _=>false| .int _=>true| .str x=>(PyData.str x).canLay0| .tup ds=>wD ds noncomputable def wD:List D->Bool|[]=>true|d::ds=>xB d&&wD ds end
mutual theorem rH:∀d:D,xB d=true->(Bc d).canLay0=true| .bj,_=>rfl| .bl _,h=>by cases h| .int _,_=>rfl| .str x,h=>h| .tup ds,h=>nu ds h theorem nu:∀ds:List D,wD ds=true->PyData.canLayAll0 (Au ds)=true|[],_=>rfl|d::ds,h=>by have h:(xB d&&wD ds)=true:=h;rw[cu]at h;show((Bc d).canLay0&&PyData.canLayAll0 (Au ds))=true;rw[rH d h.1,nu ds h.2];rfl end
theorem HL{d:D}(h:xB d=true)(hd:depth d<=60):SeqAt.shaped (Bc d)=true:=by unfold SeqAt.shaped;rw[rH d h,Bool.true_and];exact decide_eq_true (bM (mQ d) (by lia))
section
variable{P:Program}{w:World}
open SeqAt MeetsSeq3 in open SeqAt MeetsSeq3 in end
section
variable{X:Cx}
end
end L3
end
section
namespace L3
open PySem
end L3
end
section
namespace L3
open PySem PySem.Builtin PySem.Builtin.Str PySem.StrLaws
noncomputable def brk(c:Nat):Bool:=c==32||c==10||c==40||c==41
end L3
end
section
namespace L3
open PySem PySem.Spec PyProof.Rows L2 KM
section
variable{X:Cx}
variable{e:Expr}{es:List Expr}{te:TE}{st:Stmt}{rest:List Stmt}{t u:TS}{pos:Pos}
end
structure Jb(P:Program)(w:World)(K:PySem.W.Frag)(mg:Str->Option Value)(base:Heap)(CX:nc)(k:Nat)(f:Addr)(fd:FuncData)(ps:List Str)(sp:Sp):Prop where
 len:∀vs H Q E,sp vs H Q E->vs.length=ps.length
 run:∀(A:Around)(outer:List Env)(s:Shared)(H:Hp)(args:Args)(us:List Value)(vs:List V)(Q:VK)(E:XK),0<s.toks->c_ k A->vN P w K mg base A outer s H->BindsTo s fd args (ps.zip us)->Vals vs us->sp vs H Q E->codeAny (model P w) A (.call (.ref f) args) (CR CX A.handled outer P w H s Q E) s
section
variable{X:Cx}
end
end L3
end
section
namespace L3
open PySem PySem.Spec PyProof.Rows L2
section
variable{prog:Program}{w:World}{A:Around}{E:Value->Shared->Prop}{s:Shared}
end
end L3
end
section
namespace L3
open PySem PySem.Spec PyProof.Rows L2 KM
end L3
end
section
namespace L3
open PySem PySem.Spec PyProof.Rows L2
theorem oU:∀(B:Nat)(l:List Int),l.Nodup->(∀z,z∈l->0<=z/\z<(B:Int))->l.length<=B
 |0,l,_,h=>by cases l with|nil=>simp|cons z l=>have :=h z dj;omega
 |B+1,l,hn,h=>by
  have :=oU B (l.erase (B:Int)) (hn.erase _) λz a=>by
   have h1:=h z (List.mem_of_mem_erase a);have h2:z≠(B:Int):=λe=>by rw[e]at a;exact(List.Nodup.mem_erase_iff hn).mp a|>.1 rfl
   omega
  rw[List.length_erase]at this;split at this<;>omega
theorem uT{l:List Int}(h1:l.Pairwise (·<=·))(h2:l.Nodup):l.Pairwise (·<·):=(h1.and h2).imp λ⟨a,b⟩=>by omega
theorem dD:∀{ns:List Int}{us:List Value},Vals (ns.map V.int) us->IntsAre us ns|[],_, .nil=> .nil|n::ns,_, .cons r t=>by obtain⟨k,rfl⟩:=r;exact .cons n k (dD t)
theorem kg:∀{ns:List Int}{us:List Value},IntsAre us ns->Vals (ns.map V.int) us|_,_, .nil=> .nil|_,_, .cons n t h=> .cons ⟨t,rfl⟩ (kg h)
theorem tm{X:Cx}{pins:List (Addr×Obj)}{s:Shared}{σ:L2.St}{H:Hp}(I:Inv X pins σ H s)(d:Drawn):Inv X pins σ H {s with drawn:=d}:=⟨I.ok,I.os,I.bare,I.base,I.loc,I.cell,I.free,I.dY,I.pin,I.bD,I.len⟩
noncomputable def J6(K:PySem.W.Frag)(t:TA):TE:=λσ H Q=>t σ H λvs a=>∃(p:Addr)(ns:List Int),vs=[.ref p]/\bQ K a p (ns.map V.int)/\(∀z,z∈ns->0<=z/\z<127)/\∀l(b:List Int),a l=none->b.Pairwise (·<·)->(∀z,z∈b↔z∈ns)->Q (.ref l) (upd a l (.lst (b.map V.int)))
theorem oJ{X:Cx}{e:Expr}{t:TA}{N r q1 q2:Pos}(hh:X.A.handled=none)(E:Gl X "sorted")(L:X.mg "sorted"=none)(F:Gl X "set")(M:X.mg "set"=none)(A:bootBuiltins "sorted"=some (.builtin "sorted"))(B:bootBuiltins "set"=some (.type "set"))(ha:PA X [e] t)(he:starEach [e] X.env=(false,eval e X.env)::starEach [] X.env:=by rfl):PE X (.Call (.Name "sorted" N) [.Call (.Name "set" r) [e] [] q2] [] q1) (J6 X.K t):=by
 intro pins s σ H Q I h;refine wpAny_Call_Name_kw (fk I E L A ?_ (by decide) (by decide));refine PyProof.Rows.callWith_builtin1 ?_;show wpAny _ _ (spliced ((false,eval (.Call (.Name "set" r) [e] [] q2) X.env)::backTo q1 (starEach [] X.env))) _ _ s;refine Calls.spliced_cons (wpAny_Call_Name_kw (fk I F M B ?_ (by decide) (by decide)));refine PyProof.Rows.callWith_type1 (bp (ha q2 pins s σ H _ I h) λus s1 U=>?_) he rfl;obtain⟨vs,x,j,P,p,ns,D,hq,hr,q⟩:=U;subst D;obtain⟨u,rfl,R⟩:=vals1 P;cases R;obtain⟨Y,S,O,f⟩:=j.list hq;refine SR.w_setOf hh O.isList (ns:=ns) (by simpa using dD S) (λks hn i=>by have :=oU 127 ks hn λz f=>hr z (i z f);unfold scanBound;omega) λh2 v ks hS g hm G=>?_;refine Calls.spliced_nil ?_;have K:ks.length<128:=by have :=oU 127 ks g λz f=>hr z ((hm z).mp f);omega
 refine SR.nG hh hS g K λh3 d T a vs w C ho n m c i J=>?_;have y:Inv X pins σ x {s1 with heap:=h2,toks:=v}:=j.kept (h':=h2) (t':=v) λb o l=>G b o (zQ05 l) l;have k:=tm y d;have W:vs.length=ks.length:=by rw[IntsAre.length m,c.length_eq]
 refine⟨.ref a,_,k.laid (t':=T) (h':=h3) J n (show br X.prog X.w _ h3 a (.lst (w.map V.int))from⟨?_,vs,C,kg m,ho⟩),rfl,q a w (k.bD.fresh n) (uT i (c.nodup_iff.mpr g)) λz=>c.mem_iff.trans (hm z)⟩;rw[dA,c.length_eq,sizeLine_eq];omega
end L3
end
section
namespace K12
open PySem L2 L3 KM PyProof.Rows
seal L2.PE L2.PS L2.jL L2.PT L2.PW L2.PA L2.PG L2.vG L2.PI L2.PC L2.PO L2.uY L2.PK L3.uv L3.PH L3.PB
variable{P:Program}{w:World}{K:PySem.W.Frag}{mg:Str->Option Value}{base:Heap}{t:vE}
noncomputable def mC(x:Str)(i:Nat):Int:=if decide (V.int i=fZ x)=true then 1 else 0
noncomputable def bI:Nat->Int->D->List Int|n+1,b, .tup (.str x::ps)=>if x="var"then(match ps with|[.int i]=>if b<=i then[i-b]else[]|_=>[])else((List.range (aE x ps).length).map λi=>bI n (b+mC x i) (((aE x ps)[i]?).getD .bj)).flatten|_,_,_=>[]
theorem oK(x:Str)(i:Nat):0<=mC x i:=by unfold mC;split<;>decide
theorem qZ(x:Str)(i:Nat):cQ x i= .int (mC x i):=by unfold cQ mC;split<;>rfl
theorem kB(f:Nat->List Int):∀(m j:Nat),j<=m->(((List.range j).map f).flatten).length<=(((List.range m).map f).flatten).length
 |0,j,h=>by rw[show j=0 by omega];exact zQ04 _
 |m+1,j,h=>by
  by_cases e:j=m+1;·rw[e];exact zQ04 _
  ·have :=kB f m j (by omega);rw[List.range_succ,List.map_append,List.flatten_append,gf];omega
theorem eT(f:Nat->List Int)(j:Nat):((List.range (j+1)).map f).flatten=((List.range j).map f).flatten++f j:=by rw[List.range_succ,List.map_append,List.flatten_append];simp
def oz(n:Nat):Sp:=λvs H Q _=>∃(d:D)(v:V)(b:Int),vs=[v, .int b]/\Rep H d v/\Wf d/\depth d<n/\0<=b/\(bI n b d).length<=16000000/\∀(a:Addr)(H':Hp),H a=none->aT H H'->H' a=some (.lst ((bI n b d).map V.int))->Q (.ref a) H'
theorem bU:aU ["thing","binders","numbers","kid","bound"] ["thing","binders"] (ao bO):=⟨rfl,rfl,rfl,by decide+kernel,rfl,by decide+kernel,by decide+kernel⟩
theorem h_{n:Nat}(D:Df K mg "numbers_free" bO ["thing","binders"])(M:Mg mg t)(eQ:cv P w K mg bX "kids_of" (1) ["thing"] ph)(dO:cv P w K mg bX "binds_of" (1) ["thing"] eU)(de:cv P w K mg bX "numbers_free" (n+3) ["thing","binders"] (oz n)):cv P w K mg bX "numbers_free" (n+4) ["thing","binders"] (oz (n+1)):=by
 refine D.ok bU (λvs H Q E h=>?_) (λbase f cZ A outer s H vs Q E hr h=>?_);·obtain⟨d,v,b,rfl,_⟩:=h;rfl
 obtain⟨d,v,b,rfl,r,DX,hd,hb,hl,q⟩:=h;refine⟨_,(aj (bG (aD bN (bu ck (pv 0) ae (λ_ _=>rfl)) ah (aO _)) (ak (aJ (mJ (aD yo (bu ck (pv 0) ae (λ_ _=>rfl)) (pv 1) (aO _)) (bh (aa (ar iU (bu ck (pv 0) ae (λ_ _=>rfl)) (pv 1)) ag)) (bh ag)))) aZ) (aj (aA (i:=2) bU.nd rfl (dH rfl) (bh ag)) (aj (jv PassesOwn.never rfl (xt rfl M.Dx (aa (bz eQ hr.m rfl bB (aa (pv 0) ag)) (aa (bz dO hr.m rfl bB (aa (pv 0) ag)) ag))) (zj (n:=2) rfl (n8 (cC (i:=3) bU.nd rfl (dH rfl)) (n8 (cC (i:=4) bU.nd rfl (dH rfl)) wx))) (ak (rC (yY PySem.F.plainAttrs_list PySem.F.slot_list_extend PySem.F.type_list_extend sg (pv 2) (aa (bz de hr.m rfl bB (aa (pv 3) (aa (ar cB (pv 1) (pv 4)) ag))) ag))))) (ak (aJ (pv 2)))))),?_⟩;try dsimp only[tU,iG]
 refine F8 ?_;intro _ _ _ _;obtain⟨x,ps,k,rfl,wf,HQ⟩:=yu DX;have Kd:=y8 wf;obtain⟨a,D_,rfl,ha,v0,D_,rfl,⟨rfl,hx⟩,rp⟩:=id r;have ea:jY (V.str x::D_) 0=some (.str x):=aV (j:=0) rfl;refine⟨_,rfl,a,_,_,_,rfl,rfl,eN.of ha,ea,rfl,_,rfl,?_⟩;refine cN (λc=>?_) (λc=>?_)
 ·have c:V.str x=V.str "var":=of_decide_eq_true c;cases c;obtain⟨sh,e1,_,R,_,S,_⟩:=bT wf;rw[cS]at e1;cases e1;rw[nR]at R S;obtain⟨g,rfl⟩:∃g,ps=[g]:=by cases ps with|nil=>simp at S|cons g rest=>cases rest with|nil=>exact⟨g,rfl⟩|cons _ _=>simp at S
  rw[aq,cu]at R;have hn:gu g=true:=by simpa[da]using R.1
  obtain⟨i,rfl⟩:∃i,g= .int i:=by cases g<;>first|exact⟨_,rfl⟩|simp[gu]at hn
  obtain⟨u1,Kr,rfl,J,_⟩:=rp;cases(show u1=V.int i from J);have e:bI (n+1) b (.tup [.str "var", .int i])=if b<=i then[i-b]else[]:=by rw[bI,if_pos rfl]
  rw[e]at q;refine⟨_,rfl,a,_,_, .int i,rfl,rfl,eN.of ha,aV (j:=1) rfl,_,rfl,_,_,rfl,rfl,_,rfl,?_⟩;refine cN (λc=>?_) (λc=>?_);·have c:b<=i:=of_decide_eq_true c;rw[if_pos c]at q;exact⟨_,rfl,a,_,_, .int i,rfl,rfl,eN.of ha,aV (j:=1) rfl,_,rfl,_,_,rfl,rfl,(dh rfl),λp m=>q p _ m (ab m _) ai⟩
  ·have c:¬b<=i:=of_decide_eq_false (Bool.eq_false_iff.mpr c);rw[if_neg c]at q;exact⟨(dh rfl),λp m=>q p _ m (ab m _) ai⟩
 have hv:x≠"var":=λz=>c (by rw[z];exact decide_eq_true rfl);have e:bI (n+1) b (.tup (.str x::ps))=((List.range (aE x ps).length).map λi=>bI n (b+mC x i) (((aE x ps)[i]?).getD .bj)).flatten:=by
  conv=>lhs;unfold bI
  exact if_neg hv
 rw[e]at q hl;refine⟨(dh rfl),λg B=>?_⟩;refine⟨_,rfl,x,ps,_,rfl,r.mono (ab B _),HQ,λp1 us H1 Fi s1 h1 J=>⟨_,rfl,x,ps,_,k,rfl,(r.mono (ab B _)).mono s1,wf,λI H2 s2 h2=>?_⟩⟩;have sA:=(ab B (.lst [])).trans (s1.trans s2);have T:H2 g=some (.lst []):=s2 _ _ (s1 _ _ ai);have U:=s2 _ _ h1;have l1:=J.length;have Ir:p1≠g:=λz=>by rw[z,ai]at Fi;cases Fi
 have Bv:=J.mono s2;refine⟨p1,I,us,_,rfl,bQ.of U,bQ.of h2,jH us.length (λj Z H'=>∃kv O,Z=[some (.ref a),some (.int b),some (.ref g),kv,O]/\H' g=some (.lst ((((List.range j).map λi=>bI n (b+mC x i) (((aE x ps)[i]?).getD .bj)).flatten).map V.int))/\cx g H2 H') ⟨none,none,rfl,T,λ_ _ _ h=>h⟩ ?_ ?_⟩
 ·rintro i Z C hi⟨kv,O,rfl,m,u⟩;have X:i<(aE x ps).length:=by omega
  have LS:I≠g:=λz=>by rw[z,T]at h2;have :=congrArg (λo=>match o with|some (HO.lst l)=>l.length|_=>0) h2;simp[cU]at this;omega
  obtain⟨F,G⟩:∃F,(aE x ps)[i]?=some F:=⟨_,zQ03 X⟩;obtain⟨N,Bl,BM⟩:=Bv.get G;have hbi:(cU x (aE x ps).length)[i]?=some (.int (mC x i)):=by unfold cU;rw[ic,List.getElem?_range X];show some (cQ x i)=_;rw[qZ]
  have g1:=u _ _ Ir U;have g2:=u _ _ LS h2;refine⟨⟨us,_,N,_,bQ.of g1,bQ.of g2,Bl,hbi⟩,?_⟩;rintro y H4⟨p,x',y',rfl,E9,rfl,hy⟩;obtain⟨y1,y2⟩:=hy us _ (bQ.of g1) (bQ.of g2);rw[Bl]at y1;rw[hbi]at y2;cases y1;cases y2;have L:=ab E9 (.tup [N, .int (mC x i)]);obtain⟨w1,w2⟩:=l_ wf G;have W:=kB (λi=>bI n (b+mC x i) (((aE x ps)[i]?).getD .bj)) (aE x ps).length (i+1) X;rw[eT,gf,G]at W;have Gq:Rep C F N:=Rep.iM u (λvs=>by rw[T];exactλz=>nomatch z) BM;refine⟨p,_,rfl,eN.of ai,rfl,_,_,rfl,_,_,rfl,rfl,?_⟩;refine⟨_,rfl, .inl ⟨rfl,_,bQ.of (L _ _ m)⟩,_,rfl,_,rfl,_,rfl,_,_,rfl,rfl,F,N,b+mC x i,rfl,Gq.mono L,w1,by omega,by have :=oK x i;omega,by simp only[Option.getD_some]at W;omega,λp5 H5 LO s5 h5=>?_⟩;have e0:=s5 _ _ (L _ _ m);refine⟨g,p5,_,_,rfl,rfl,e0,h5,?_,_,_,rfl,?_,?_⟩;·rw[dA,dA,show sizeLine=16777216 by decide];simp only[Option.getD_some]at W;omega
  ·rw[eT,List.map_append,G];exact ai
  ·exactλc o hc h=>by rw[aG hc];exact s5 _ _ (L _ _ (u c o hc h))
 ·rintro Z C⟨kv,O,rfl,m,u⟩;have st:∃Y,bQ K C I Y:=by
   by_cases z:I=g;·exact⟨_,by rw[z];exact bQ.of m⟩
   ·exact⟨_,bQ.of (u _ _ z h2)⟩
  obtain⟨Y,Kj⟩:=st;rw[l1]at m;exact⟨⟨us,Y,bQ.of (u _ _ Ir U),Kj,rfl⟩,_,rfl,q g C B (λc o h=>u c o (aB h B) (sA c o h)) m⟩
theorem eF(D:Df K mg "numbers_free" bO ["thing","binders"])(M:Mg mg t)(c:cv P w K mg bX "kids_of" (1) ["thing"] ph)(a:cv P w K mg bX "binds_of" (1) ["thing"] eU):∀n:Nat,cv P w K mg bX "numbers_free" (n+3) ["thing","binders"] (oz n)|0=>cv.never D λvs H Q E⟨d,v,b,_,_,_,h,_⟩=>absurd h (Nat.not_lt_zero _)|n+1=>h_ D M c a (eF D M c a n)
def Cn(n:Nat):Sp:=λvs H Q _=>∃(d:D)(v:V),vs=[v]/\Rep H d v/\Wf d/\depth d<n/\(bI n 0 d).length<=16000000/\(∀z,z∈bI n 0 d->0<=z/\z<127)/\∀(a:Addr)(b:List Int)(H':Hp),H a=none->aT H H'->b.Pairwise (·<·)->(∀z,z∈b↔z∈bI n 0 d)->H' a=some (.lst (b.map V.int))->Q (.ref a) H'
theorem pP:aU ["thing"] ["thing"] (ao eS):=⟨rfl,rfl,rfl,by decide+kernel,rfl,by decide+kernel,by decide+kernel⟩
theorem tw(D:Df K mg "free_in" eS ["thing"])(M:Mg mg t)(b:cv P w K mg bX "numbers_free" (63) ["thing","binders"] (oz 60)):cv P w K mg bX "free_in" (140) ["thing"] (Cn 60):=by
 refine D.ok pP (λvs H Q E h=>?_) (λbase f cZ A outer s H vs Q E hr h=>?_);·obtain⟨d,v,rfl,_⟩:=h;rfl
 obtain⟨d,v,rfl,r,j,hd,hl,e,q⟩:=h;have hh:=hr.hd (by decide);refine⟨_,(ak (aJ (oJ hh rfl M.v7 rfl M.Cj r_ AG (aa (bz b hr.m rfl bB (aa (pv 0) (aa ae ag))) ag)))),?_⟩;try dsimp only[tU,n]
 exact⟨_,rfl,d,v,0,rfl,r,j,hd,by decide,hl,λi m o s1 h1=>⟨i,bI 60 0 d,rfl,bQ.of h1,e,λl k a g c=>q l k _ (s1.free a) (s1.trans (ab a _)) g c ai⟩⟩
theorem b0:aU ["_law_thing","_law_over","_law_kids_here","_law_binds_here","_law_found","_law_k"] ["_law_thing","_law_over"] (ao cX):=⟨rfl,rfl,rfl,by decide+kernel,rfl,by decide+kernel,by decide+kernel⟩
theorem mZ{n:Nat}(D:Df K mg "_law_free" cX ["_law_thing","_law_over"])(M:Mg mg t)(cy:cv P w K mg bX "_law_kids" (2) ["_law_thing"] iC)(dq:cv P w K mg bX "_law_binds" (3) ["_law_thing"] eU)(fc:cv P w K mg bX "_law_free" (n+4) ["_law_thing","_law_over"] (oz n)):cv P w K mg bX "_law_free" (n+5) ["_law_thing","_law_over"] (oz (n+1)):=by
 refine D.ok b0 (λvs H Q E h=>?_) (λbase f cZ A outer s H vs Q E hr h=>?_);·obtain⟨d,v,b,rfl,_⟩:=h;rfl
 obtain⟨d,v,b,rfl,r,DX,hd,hb,hl,q⟩:=h;obtain⟨x,ps,k,rfl,wf,HQ⟩:=yu DX;have Kd:=y8 wf;obtain⟨a,D_,rfl,ha,v0,D_,rfl,⟨rfl,hx⟩,rp⟩:=id r;have ea:jY (V.str x::D_) 0=some (.str x):=aV (j:=0) rfl;refine⟨_,(aj (bG (aD bN (bu ck (pv 0) ae (λ_ _=>rfl)) ah (aO _)) (ak (aJ (ar pB (bh (aa (ar iU (bu ck (pv 0) ae (λ_ _=>rfl)) (pv 1)) ag)) (cT kc rfl M.x8 uN (aa (gk yo (bu ck (pv 0) ae (λ_ _=>rfl)) (pv 1) (aO _)) ag))))) aZ) (aj (aA (i:=2) b0.nd rfl (dH rfl) (bz cy hr.m rfl bB (aa (pv 0) ag))) (aj (aA (i:=3) b0.nd rfl (dH rfl) (bz dq hr.m rfl bB (aa (pv 0) ag))) (aj (aA (i:=4) b0.nd rfl (dH rfl) (bh ag)) (aj (jv PassesOwn.never rfl (cz rfl M.dN (aa (bf ba rfl M.e_ dR (aa (pv 2) ag)) ag)) (cC (i:=5) b0.nd rfl (dH rfl)) (ak (aA (i:=4) b0.nd rfl (dH rfl) (ar oZ (pv 4) (bz fc hr.m rfl bB (aa (bu bW (pv 2) (pv 5) (λ_ _=>rfl)) (aa (ar cB (pv 1) (bu bW (pv 3) (pv 5) (λ_ _=>rfl))) ag))))))) (ak (aJ (pv 4)))))))),?_⟩;try dsimp only[tU,iG]
 refine G_ ?_;intro _ _ _ _ _ _;refine⟨_,rfl,a,_,_,_,rfl,rfl,eN.of ha,ea,rfl,_,rfl,?_⟩;refine cN (λc=>?_) (λc=>?_)
 ·have c:V.str x=V.str "var":=of_decide_eq_true c;cases c;obtain⟨sh,X,_,J,_,L,_⟩:=bT wf;rw[cS]at X;cases X;rw[nR]at J L;obtain⟨g,rfl⟩:∃g,ps=[g]:=by cases ps with|nil=>simp at L|cons g rest=>cases rest with|nil=>exact⟨g,rfl⟩|cons _ _=>simp at L
  rw[aq,cu]at J;have hn:gu g=true:=by simpa[da]using J.1
  obtain⟨i,rfl⟩:∃i,g= .int i:=by cases g<;>first|exact⟨_,rfl⟩|simp[gu]at hn
  obtain⟨u1,Kr,rfl,F,_⟩:=rp;cases(show u1=V.int i from F);have e:bI (n+1) b (.tup [.str "var", .int i])=if b<=i then[i-b]else[]:=by rw[bI,if_pos rfl]
  rw[e]at q;refine⟨_,rfl,a,_,_, .int i,rfl,rfl,eN.of ha,aV (j:=1) rfl,_,rfl,_,_,rfl,rfl,(dh rfl),λo nF=>?_⟩;have s1:=ab nF (.lst [V.int (i-b)]);refine⟨_,rfl,a,_,_, .int i,rfl,rfl,eN.of (s1 _ _ ha),aV (j:=1) rfl,_,rfl,_,_,rfl,rfl,?_⟩;by_cases c:b<=i;·rw[if_pos c]at q;have I:decide (b<=i)=true:=decide_eq_true c;refine .inr ⟨true,congrArg (λz=>[V.bl z]) I,o,1,_,rfl,rfl,ai,by decide,by decide,(by show 1*1<=sizeLine;decide),λy u=>?_⟩;exact q y _ (s1.free u) (s1.trans (ab u _)) ai
  ·rw[if_neg c]at q;have I:decide (b<=i)=false:=decide_eq_false c;refine .inr ⟨false,congrArg (λz=>[V.bl z]) I,o,0,_,rfl,rfl,ai,by decide,by decide,(by show 1*0<=sizeLine;decide),λy u=>?_⟩;exact q y _ (s1.free u) (s1.trans (ab u _)) ai
 have hv:x≠"var":=λz=>c (by rw[z];exact decide_eq_true rfl);have e:bI (n+1) b (.tup (.str x::ps))=((List.range (aE x ps).length).map λi=>bI n (b+mC x i) (((aE x ps)[i]?).getD .bj)).flatten:=by
  conv=>lhs;unfold bI
  exact if_neg hv
 rw[e]at q hl;refine⟨_,rfl,x,ps,_,k,rfl,r,wf,λo us H1 Fi s1 h1 F=>⟨_,rfl,x,ps,_,k,rfl,r.mono s1,wf,λp2 U s2 h2=>⟨(dh rfl),λg p=>?_⟩⟩⟩;have S:=(s1.trans s2).trans (ab p (.lst []));have Y:(upd U g (.lst [])) g=some (.lst []):=ai;have N:=ab p (.lst []) _ _ (s2 _ _ h1);have Z:=ab p (.lst []) _ _ h2;have l1:=F.length;have Bv:=F.mono (s2.trans (ab p (.lst [])));have Hg:=s1.free (s2.free p);generalize upd U g (.lst [])=H3 at S Y N Z Bv⊢;refine⟨_,rfl,o,us,rfl, .inl (bQ.of N),_,rfl,(by show-(2^62)<=((us.length:Nat):Int);omega),(by show((us.length:Nat):Int)<2^62;omega),jH us.length (λj T H'=>∃l kv,T=[some (.ref a),some (.int b),some (.ref o),some (.ref p2),some (.ref l),kv]/\H' l=some (.lst ((((List.range j).map λi=>bI n (b+mC x i) (((aE x ps)[i]?).getD .bj)).flatten).map V.int))/\H l=none/\aT H3 H') ⟨g,none,rfl,Y,Hg,aT.refl _⟩ ?_ ?_⟩
 ·rintro i T W hi⟨l,kv,rfl,C,E9,m⟩;refine⟨hi,?_⟩;rintro x' H5⟨rfl,rfl⟩;have O:i<(aE x ps).length:=by omega
  have e0:(0:Int)+(i:Int)=((i:Nat):Int):=by omega
  rw[e0];obtain⟨G,B⟩:∃G,(aE x ps)[i]?=some G:=⟨_,zQ03 O⟩;obtain⟨ui,Bl,BM⟩:=Bv.get B;have hbi:(cU x (aE x ps).length)[i]?=some (.int (mC x i)):=by unfold cU;rw[ic,List.getElem?_range O];show some (cQ x i)=_;rw[qZ]
  obtain⟨w1,w2⟩:=l_ wf B;have Al:=kB (λi=>bI n (b+mC x i) (((aE x ps)[i]?).getD .bj)) (aE x ps).length (i+1) O;rw[eT,gf,B]at Al;simp only[Option.getD_some]at Al;refine⟨_,rfl,_,rfl,_,rfl,o,us,_,ui,rfl,rfl,bQ.of (m _ _ N),aV Bl,_,rfl,_,rfl,_,rfl,p2,_,_,_,rfl,rfl,bQ.of (m _ _ Z),aV hbi,_,_,rfl,rfl,G,ui,b+mC x i,rfl,BM.mono m,w1,by omega,by have :=oK x i;omega,by omega,λy H5 LO R h5=>?_⟩;refine⟨l,y,_,_,rfl,rfl,R _ _ C,h5,?_,λp6 Bb=>?_⟩;·rw[dA,dA,show sizeLine=16777216 by decide];omega
  ·refine⟨p6,_,rfl,?_,S.free (m.free (R.free Bb)),m.trans (R.trans (ab Bb _))⟩;rw[eT,List.map_append,B];exact ai
 ·rintro T W⟨l,kv,rfl,C,E9,m⟩;rw[l1]at C;exact⟨zQ04 _,_,rfl,q l W E9 (S.trans m) C⟩
theorem ju(D:Df K mg "_law_free" cX ["_law_thing","_law_over"])(M:Mg mg t)(c:cv P w K mg bX "_law_kids" (2) ["_law_thing"] iC)(a:cv P w K mg bX "_law_binds" (3) ["_law_thing"] eU):∀n:Nat,cv P w K mg bX "_law_free" (n+4) ["_law_thing","_law_over"] (oz n)|0=>cv.never D λvs H Q E⟨d,v,b,_,_,_,h,_⟩=>absurd h (Nat.not_lt_zero _)|n+1=>mZ D M c a (ju D M c a n)
end K12
end
section
namespace K12
open PySem L2 L3 KM
seal L2.PE L2.PS L2.jL L2.PT L2.PW L2.PA L2.PG L2.vG L2.PI L2.PC L2.PO L2.uY L2.PK L3.uv
variable{P:Program}{w:World}{K:PySem.W.Frag}{mg:Str->Option Value}{base:Heap}{t:vE}
end K12
end
section
namespace K12
open PySem L2 L3 KM PyProof.Rows
seal L2.PE L2.PS L2.jL L2.PT L2.PW L2.PA L2.PG L2.vG L2.PI L2.PC L2.PO L2.uY L2.PK L3.uv
variable{P:Program}{w:World}{K:PySem.W.Frag}{mg:Str->Option Value}{base:Heap}{t:vE}
theorem tJ{k:Bool}{x:Str}{ps:List D}(h:bL aR k (.tup (.str x::ps))=true)(j:cw x=true):∀(i:Nat)(p:D),ps[i]?=some p->isTup p=false/\(gu p=true\/aR p=true):=by
 obtain⟨s,h1,h2,h3,h4,h5,h6,m,_⟩:=bT h;have hc:∀(d:List Nat)(a:List D)(i:Nat),dQ aR d a=true->(∀c∈d,Bm c=!cw x)->∀p,a[i]?=some p->isTup p=false/\(gu p=true\/aR p=true):=λd=>by
  induction d with
   |nil=>intro a i hq _ p e;cases a with|nil=>simp at e|cons _ _=>simp[dQ]at hq
   |cons c d l=>
    intro a i hq g p e;cases a with
     |nil=>simp[dQ]at hq
     |cons q a=>
      rw[aq,cu]at hq;cases i with
       |zero=>
        simp at e;subst e;have f:=g c dj;rw[j]at f;have b:=hq.1;unfold da at b;rw[if_neg (λz=>by rw[z,HR]at f;cases f),if_neg (λz=>by rw[z,IG]at f;cases f)]at b;split at b;·exact⟨by cases q<;>simp[gu]at b<;>rfl, .inl b⟩
        ·exact⟨by cases q<;>simp[aR]at b<;>rfl, .inr b⟩
       |succ i=>exact l a i hq.2 (λc hc=>g c (d9 _ hc)) p (by simpa using e)
 exactλi p e=>hc _ ps i h3 h6 p e
theorem kd:∀(ps:List D),(∀(i:Nat)(p:D),ps[i]?=some p->isTup p=false)->aK ps=0/\aF ps=0
 |[],_=>⟨rfl,rfl⟩
 |p::ps,h=>by
  obtain⟨h1,h2⟩:=kd ps λi q e=>h (i+1) q (by simpa using e);have a:=h 0 p rfl;have b:aM p=0:=by cases p<;>first|rfl|simp[isTup]at a
  have c:depth p=0:=by cases p<;>first|rfl|simp[isTup]at a
  simp[aK,aF,h1,h2,b,c]
theorem jc:∀ps:List D,aK ps=(ps.map aM).sum|[]=>rfl|p::ps=>by simp[aK,jc ps]
theorem iP:∀ps:List D,aF ps=zU (ps.map depth)|[]=>rfl|p::ps=>by rw[aF,iP ps];rfl
theorem i4{k:Bool}{x:Str}{ps:List D}(h:bL aR k (.tup (.str x::ps))=true):aM (.tup (.str x::ps))=1+((aE x ps).map aM).sum/\depth (.tup (.str x::ps))=1+zU ((aE x ps).map depth):=by
 rw[<-jc,<-iP];have b:aM (.tup (.str x::ps))=1+aK ps:=by simp[aM,aK]
 have c:depth (.tup (.str x::ps))=1+aF ps:=by simp[depth,aF]
 rw[b,c];unfold aE;by_cases a:cw x=true;·obtain⟨d,f⟩:=kd ps λi p e=>(tJ h a i p e).1;rw[if_pos a,d,f];exact⟨rfl,rfl⟩
 ·rw[if_neg a];exact⟨rfl,rfl⟩
structure Rz(d:D)(n:Nat):Prop where
 wf:Wf d
 dp:depth d<n
 kn:aM d<=8000000
seal L3.PH L3.PB
theorem uz:∀{l m:List Int},l.Pairwise (·<·)->m.Pairwise (·<·)->(∀z,z∈l↔z∈m)->l=m
 |[],[],_,_,_=>rfl
 |[],y::m,_,_,h=>absurd ((h y).mpr dj) (by simp)
 |x::l,[],_,_,h=>absurd ((h x).mp dj) (by simp)
 |x::l,y::m,hl,hm,h=>by
  obtain⟨c,f⟩:=List.pairwise_cons.mp hl;obtain⟨d,g⟩:=List.pairwise_cons.mp hm;have e:x=y:=by
   rcases List.mem_cons.mp ((h x).mp dj)with z|z;·exact z
   ·rcases List.mem_cons.mp ((h y).mpr dj)with b|b;·exact b.symm
    ·have a1:=d x z;have a2:=c y b;omega
  subst e;rw[uz f g λz=>⟨λa=>?_,λa=>?_⟩]
  ·rcases List.mem_cons.mp ((h z).mp (d9 _ a))with q|q;·have :=c z a;omega
   ·exact q
  ·rcases List.mem_cons.mp ((h z).mpr (d9 _ a))with q|q;·have :=d z a;omega
   ·exact q
theorem ub:∀(n:Nat)(b:Int)(d:D)(k:Bool),0<=b->bL aR k d=true->∀z,z∈bI n b d->0<=z/\z<100
 |0,b,d,k,hb,wf,z,a=>by unfold bI at a;simp at a
 |n+1,b,d,k,hb,wf,z,a=>by
  obtain⟨x,ps,rfl⟩:=iq wf;by_cases o:x="var"
  ·subst o;obtain⟨s,j,_,g,_,h,_⟩:=bT wf;rw[cS]at j;cases j;rw[nR]at g h;obtain⟨c,rfl⟩:∃c,ps=[c]:=by cases ps with|nil=>simp at h|cons c rest=>cases rest with|nil=>exact⟨c,rfl⟩|cons _ _=>simp at h
   rw[aq,cu]at g;have hn:gu c=true:=by simpa[da]using g.1
   obtain⟨i,rfl⟩:∃i,c= .int i:=by cases c<;>first|exact⟨_,rfl⟩|simp[gu]at hn
   simp[gu]at hn;have p:bI (n+1) b (.tup [.str "var", .int i])=if b<=i then[i-b]else[]:=by rw[bI,if_pos rfl]
   rw[p]at a;split at a;·rw[List.mem_singleton]at a;omega
   ·simp at a
  ·have e:bI (n+1) b (.tup (.str x::ps))=((List.range (aE x ps).length).map λi=>bI n (b+mC x i) (((aE x ps)[i]?).getD .bj)).flatten:=by
    conv=>lhs;unfold bI
    exact if_neg o
   rw[e,List.mem_flatten]at a;obtain⟨l,hl,a⟩:=a;obtain⟨i,hi,rfl⟩:=List.mem_map.mp hl;have hi:=List.mem_range.mp hi;obtain⟨f,m⟩:∃f,(aE x ps)[i]?=some f:=⟨_,zQ03 hi⟩;obtain⟨⟨q,r⟩,u⟩:=l_ wf m;rw[m]at a;exact ub n _ f q (by have :=oK x i;omega) r z a
theorem w4(n:Nat)(b:Int)(a:List D):bI (n+1) b (.tup (.str "var"::a))=(match a with|[.int i]=>if b<=i then[i-b]else[]|_=>[]):=by
 conv=>lhs;unfold bI
 exact if_pos rfl
theorem oD(x:Int):∀a:List Int,wq (.int x) (a.map V.int)=decide (x∈a)
 |[]=>rfl
 |y::a=>by
  have b:=oD x a;unfold wq at b⊢;rw[eX,List.any_cons,b];show(y==x||decide (x∈a))=decide (x∈y::a);by_cases e:y=x;·subst e;simp
  ·have c:¬x=y:=λz=>e z.symm;simp[e,c]
theorem gB:∀a:List Int,(a.map V.int).all dZ=true|[]=>rfl|y::a=>by rw[eX,List.all_cons,gB a];rfl
theorem iQ{H:Hp}:∀a:List Int,bF H (a.map D.int) (a.map V.int)|[]=>rfl|z::a=>⟨_,_,rfl,rfl,iQ a⟩
theorem ki:∀a:List Int,qr (a.map D.int)|[]=>trivial|_::a=>⟨trivial,ki a⟩
theorem iW:∀a:List Int,aF (a.map D.int)=0|[]=>rfl|z::a=>by simp[aF,depth,iW a]
theorem wC(F:List Int):(List.range 100).filterMap (λ(i:Nat)=>if decide ((i:Int)∈F)=true then some (V.int (i:Nat))else none)=(((List.range 100).filter λ(i:Nat)=>decide ((i:Int)∈F)).map λ(i:Nat)=>(i:Int)).map V.int:=by
 generalize List.range 100=l;induction l with
  |nil=>rfl
  |cons i l a=>
   rw[lQ,List.filter_cons,a];by_cases c:(i:Int)∈F;·simp[c]
   ·simp[c]
theorem xq(F:List Int):(((List.range 100).filter λ(i:Nat)=>decide ((i:Int)∈F)).map λ(i:Nat)=>(i:Int)).Pairwise (·<·):=by rw[List.pairwise_map];exact(List.pairwise_lt_range.filter _).imp λh=>by omega
theorem ve{F:List Int}(h:∀z,z∈F->0<=z/\z<100)(z:Int):z∈(((List.range 100).filter λ(i:Nat)=>decide ((i:Int)∈F)).map λ(i:Nat)=>(i:Int))↔z∈F:=by
 rw[List.mem_map];constructor;·rintro⟨i,hi,rfl⟩;exact of_decide_eq_true (List.mem_filter.mp hi).2
 ·intro a;obtain⟨h1,h2⟩:=h z a;refine⟨z.toNat,List.mem_filter.mpr ⟨List.mem_range.mpr (by omega),decide_eq_true ?_⟩,by omega⟩;rw[show((z.toNat:Nat):Int)=z by omega];exact a
theorem qj:∀(n:Nat)(b:Int)(d:D)(k:Bool),bL aR k d=true->(bI n b d).length<=aM d
 |0,b,d,k,wf=>by unfold bI;simp
 |n+1,b,d,k,wf=>by
  obtain⟨x,ps,rfl⟩:=iq wf;by_cases c:x="var"
  ·subst c;rw[w4,(i4 wf).1];split;·split<;>simp
   ·simp
  ·have e:bI (n+1) b (.tup (.str x::ps))=((List.range (aE x ps).length).map λi=>bI n (b+mC x i) (((aE x ps)[i]?).getD .bj)).flatten:=by
    conv=>lhs;unfold bI
    exact if_neg c
   rw[e,(i4 wf).1];have j:∀(l:List D)(g:Nat->List Int),(∀i p,l[i]?=some p->(g i).length<=aM p)->(((List.range l.length).map g).flatten).length<=(l.map aM).sum:=by intro l;induction l with|nil=>intro g _;simp|cons p l f=>intro g a;rw[ig,List.range_succ_eq_map,eX,List.flatten_cons,gf,List.map_map,eX,List.sum_cons];have a1:=a 0 p rfl;have a2:=f (λi=>g (i+1)) λi q e=>a (i+1) q (by simpa using e);exact Nat.add_le_add a1 a2
   refine bM (j (aE x ps) _ λi p e=>?_) (by omega);obtain⟨⟨h,m⟩,o⟩:=l_ wf e;rw[e];exact qj n _ p h m
structure Gd(H:Hp)(d:D)(v:V):Prop where
 r:Rep H d v
 wf:Wf d
 dp:depth d<=45
 kn:aM d<=9765625
theorem Gd.mono{H H':Hp}{d:D}{v:V}(g:Gd H d v)(s:aT H H'):Gd H' d v:=⟨g.r.mono s,g.wf,g.dp,g.kn⟩
def qA(K:PySem.W.Frag):Sp:=λvs H Q _=>∃(a:Addr)(ns:List Int),vs=[.ref a]/\bQ K H a (ns.map V.int)/\∀H',Q (.bl true) H'
theorem eh:aU ["_law_script","_law_want","_law_thing","_law_found","_law_due","_law_told"] ["_law_script"] (ao nH):=⟨rfl,rfl,rfl,by decide+kernel,rfl,by decide+kernel,by decide+kernel⟩
theorem BL{f:Addr}{fd:FuncData}(F:tV K "law" "law" nH f fd)(M:Mg mg t)(l:cv P w K mg bX "_law_cell_at" (1) ["_law_script","_law_k"] (p7 K))(mF:cv P w K mg bX "_law_state" (1) ["_law_cell","_law_most"] lY)(Z:cv P w K mg bX "_law_grown" (12) ["_law_state_here","_law_want","_law_left"] (iy 10))(o7:cv P w K mg bX "_law_tree" (1) ["_law_cell"] lH)(X:cv P w K mg bX "_law_deep" (1) ["_law_cell"] lH)(W:cv P w K mg bX "_law_alike" (60) ["_law_told","_law_due"] (iw 60))(Y:cv P w K mg bX "_law_free" (64) ["_law_thing","_law_over"] (oz 60))(U:cv P w K mg bX "free_in" (140) ["thing"] (Cn 60)):f6 P w K mg base bX 201 f fd ["_law_script"] (qA K):=by
 refine F.ok eh (λvs H Q E h=>?_) (λcZ A outer s H vs Q E hr h=>?_);·obtain⟨a,ns,rfl,_⟩:=h;rfl
 obtain⟨a,ns,rfl,hS,q⟩:=h;have hu:=vF hr;have hh:=hr.hd (by decide);refine⟨_,(eR (aA (i:=1) eh.nd rfl (dH rfl) (bu bW (bh (aa ah (aa ah ag))) (ar bo (bz l hr.m rfl bB (aa (pv 0) (aa ae ag))) ae) (λ_ _=>rfl))) (eR (aA (i:=2) eh.nd rfl (dH rfl) (bz Z hr.m rfl bB (aa (bz mF hr.m rfl bB (aa (bz l hr.m rfl bB (aa (pv 0) (aa ae ag))) (aa ae ag))) (aa (pv 1) (aa ae ag))))) (eR (bG (aD bN (ar bo (ar bH (bz l hr.m rfl bB (aa (pv 0) (aa ae ag))) ae) ae) ae (aO _)) (ak (aA (i:=2) eh.nd rfl (dH rfl) (bz o7 hr.m rfl bB (aa (bz l hr.m rfl bB (aa (pv 0) (aa ae ag))) ag)))) aZ) (eR (bG (aD bN (ar bo (ar bH (bz l hr.m rfl bB (aa (pv 0) (aa ae ag))) ae) ae) ae (aO _)) (ak (aA (i:=2) eh.nd rfl (dH rfl) (bz X hr.m rfl bB (aa (bz l hr.m rfl bB (aa (pv 0) (aa ae ag))) ag)))) aZ) (aj (aA (i:=3) eh.nd rfl (dH rfl) (bz Y hr.m rfl bB (aa (pv 2) (aa ae ag)))) (aj (xP (ix:=4) (N':=["_law_k","_law_found"]) (own:=1) (fr:=[3]) eh.nd rfl rfl rfl (lj (N:=["_law_script","_law_want","_law_thing","_law_found","_law_due","_law_told"]) (sc:=ao nH) rfl rfl rfl (by decide+kernel)) (cz rfl M.dN (aa ae ag)) (fJ (by decide)) (λ_ _ _=>(cC (i:=0) (show List.Nodup (["_law_k","_law_found"]:List Str)by decide+kernel) rfl (Or.inl rfl))) (λ_ _ _=>(kI (aD (pQ (K:=K)) (pv 0) (pv 1) rfl))) (λ_ _ _=>(pv 0))) (aj (aA (i:=5) eh.nd rfl (dH rfl) (bz U hr.m rfl bB (aa (pv 2) ag))) (ak (aJ (uW (bf cG rfl M.cn bS (aa (pv 5) (aa (nD M.uO rQ rfl) ag))) (tW (bz W hr.m rfl bB (aa (cT dz rfl M.gb eH (aa (pv 5) ag)) (aa (cT dz rfl M.gb eH (aa (pv 4) ag)) ag)))))))))))))),?_⟩;try dsimp only[tU,iG]
 refine⟨λg H'=>∃k:Bool,g=[some (.ref a),some (.str (fB k)),none,none,none,none]/\aT H H',?_,?_⟩
 ·refine⟨by show 2<=sizeLine;decide,λu nF=>?_⟩;have y:=ab nF (.lst [V.str "t", .str "k"]);obtain⟨v1,KL,hm⟩:=xj (xs:=[V.str "t", .str "k"]) (m:=2) (jq ns 1) (by simp) (by decide);refine⟨_,rfl,a,ns,1,rfl,y.seq hS,_,_,rfl,rfl,by show(0:Int)<2;decide,u,_,_,_,rfl,rfl,bQ.of ai,KL,?_⟩;simp only[zQ26,zQ27,or_false]at hm;rcases hm with rfl|rfl;·exact⟨false,rfl,y⟩
  ·exact⟨true,rfl,y⟩
 rintro g n⟨k,rfl,s1⟩;refine⟨λg H'=>∃(d:KM.D)(v:V),g=[some (.ref a),some (.str (fB k)),some v,none,none,none]/\Gd H' d v/\aT H H',?_,?_⟩;·refine⟨_,rfl,a,ns,0,rfl,s1.seq hS,jq ns 0,120,rfl,by decide,λp C G O h0 h1 h2=>?_⟩;have Ky:=ab O (.lst [V.int C, .int G]);refine⟨_,rfl,p,C,G,k,10,rfl,ai,h0,h1,by decide,by decide,by decide,λd v H2 a' b' r2 w2 d2 k2 _ _ _ s2=>?_⟩;exact⟨d,v,rfl,⟨r2,⟨k,w2⟩,by omega,bM k2 (by decide)⟩,λb o hb=>s2 _ _ (aB (s1 _ _ hb) O) (Ky _ _ (s1 _ _ hb))⟩
 clear s1 n;rintro g n⟨d,v,rfl,e,s1⟩;refine⟨λg H'=>∃(d:KM.D)(v:V),g=[some (.ref a),some (.str (fB k)),some v,none,none,none]/\Gd H' d v/\aT H H',?_,?_⟩;·refine⟨_,rfl,a,ns,1,rfl,s1.seq hS,_,_,rfl,rfl,⟨by decide,by decide⟩,_,_,rfl,rfl,by show(0:Int)<6;decide,rfl,_,rfl,?_⟩;refine cN (λc=>?_) (λc=>⟨d,v,rfl,e,s1⟩);refine⟨_,rfl,a,ns,0,rfl,s1.seq hS,_,rfl,λd' B H' s' x t'=>⟨d',B,rfl,⟨x,⟨_,t'.wf⟩,t'.dp,bM t'.kn (by decide)⟩,s1.trans s'⟩⟩
 clear e s1 d v n;rintro g n⟨d,v,rfl,e,s1⟩;refine⟨λg H'=>∃(d:KM.D)(v:V),g=[some (.ref a),some (.str (fB k)),some v,none,none,none]/\Gd H' d v/\aT H H',?_,?_⟩;·refine⟨_,rfl,a,ns,1,rfl,s1.seq hS,_,_,rfl,rfl,⟨by decide,by decide⟩,_,_,rfl,rfl,by show(0:Int)<6;decide,rfl,_,rfl,?_⟩;refine cN (λc=>?_) (λc=>⟨d,v,rfl,e,s1⟩);refine⟨_,rfl,a,ns,0,rfl,s1.seq hS,_,rfl,λd' B H' s' x t'=>⟨d',B,rfl,⟨x,⟨_,t'.wf⟩,t'.dp,bM t'.kn (by decide)⟩,s1.trans s'⟩⟩
 clear e s1 d v n;rintro g n⟨d,v,rfl,e,s1⟩;obtain⟨S,T⟩:=e.wf;have Al:=qj 60 0 d S T;have KO:=e.kn;have L:=ub 60 0 d S (Int.le_refl 0) T;have L9:=e.dp;refine⟨_,rfl,d,v,0,rfl,e.r,e.wf,by omega,by decide,by omega,λu H2 B4 s2 h2=>?_⟩;refine⟨_,rfl,by decide,by decide,λp2 u0=>jB 100 (λ(i:Nat)=>if decide ((i:Int)∈bI 60 0 d)=true then some (V.int (i:Nat))else none) u0 (by decide) (λi H3 hi r=>⟨hi,?_⟩) λH3 r h3=>⟨zQ04 _,?_⟩⟩
 ·rintro x' H4⟨rfl,rfl⟩R R0 hR DJ;have e0:(0:Int)+(i:Int)=((i:Nat):Int):=by omega
  rw[e0];refine⟨_,rfl,_,rfl,u,_,rfl, .inl (bQ.of (r _ _ h2)),rfl,gB _,_,rfl,?_⟩;show if wq (.int ((i:Nat):Int)) ((bI 60 0 d).map V.int)=true then _ else _;rw[oD];refine cN (λc=>?_) (λc=>?_);·exact⟨_,rfl,hR _ _ (if_pos c) (aT.refl _)⟩
  ·exact DJ _ (if_neg c) (aT.refl _)
 rw[wC]at h3;have Mm:=s1.trans (s2.trans r);have J:=e.mono (s2.trans r);refine⟨_,rfl,d,v,rfl,J.r,J.wf,by omega,by omega,λz hz=>by have :=L z hz;omega,λp4 j H4 Mx s4 hlt Fp h4=>?_⟩;have I:j=(((List.range 100).filter λ(i:Nat)=>decide ((i:Int)∈bI 60 0 d)).map λ(i:Nat)=>(i:Int)):=uz hlt (xq _) λz=>(Fp z).trans (ve L z).symm;rw[<-I]at h3;have LL:=s4 _ _ h3;refine⟨_,rfl,_,_,_,_,rfl,fg.lst h4,rfl,?_⟩;refine⟨true,rfl,jj ?_⟩;refine⟨_,rfl,p4,_,rfl, .inl ⟨bQ.of h4,λp5 qb=>?_⟩⟩;have s5:=ab qb (.tup (j.map V.int));refine⟨_,rfl,p2,_,rfl, .inl ⟨bQ.of (s5 _ _ LL),λp6 Bb=>?_⟩⟩;have s6:=ab Bb (.tup (j.map V.int));have KU:(j.map D.int).length<=4000000:=by rw[dA,I,dA];exact bM (List.length_filter_le _ _) (by rw[List.length_range];decide)
 refine⟨.tup (j.map D.int),_,_,rfl,⟨p5,_,rfl,s6 _ _ ai,iQ j⟩,⟨p6,_,rfl,ai,iQ j⟩,⟨KU,ki j⟩,by simp only[depth];rw[iW];decide,λH7 _=>q H7⟩
end K12
end
section
namespace K12
open PySem L2 L3 KM
structure Txt(K:PySem.W.Frag)(mg:Str->Option Value)(t:vE):Prop where
 M:Mg mg t
 tK:Df K mg "kids_of" eV ["thing"]
 pM:Df K mg "binds_of" c7 ["thing"]
 iX:Df K mg "numbers_free" bO ["thing","binders"]
 sU:Df K mg "free_in" eS ["thing"]
 j0:Df K mg "_law_cell_at" bR ["_law_script","_law_k"]
 p9:Df K mg "_law_next" cV ["_law_state_here"]
 mI:Df K mg "_law_state" cI ["_law_cell","_law_most"]
 nZ:Df K mg "_law_shape" cK ["_law_word"]
 pJ:Df K mg "_law_name" cW ["_law_number"]
 oh:Df K mg "_law_grown" cF ["_law_state_here","_law_want","_law_left"]
 pR:Df K mg "_law_kids" c8 ["_law_thing"]
 nP:Df K mg "_law_binds" du ["_law_thing"]
 m4:Df K mg "_law_alike" b_ ["_law_told","_law_due"]
 pK:Df K mg "_law_free" cX ["_law_thing","_law_over"]
 pd:Df K mg "_law_tree" dM ["_law_cell"]
 p8:Df K mg "_law_deep" dW ["_law_cell"]
 Dy:Df K mg "law" nH ["_law_script"]
 pL:∃as,KD K t.jA [("nat",[]),("none",[]),("all",[.str "kind", .str "kind"]),("some",[.str "kind", .str "kind"]),("same",[.str "kind", .str "term", .str "term"]),("var",[]),("fun",[.str "kind", .str "term"]),("app",[.str "term", .str "term"]),("zero",[]),("next",[.str "term"]),("rec",[.str "kind", .str "term", .str "term", .str "term"]),("like",[.str "kind", .str "term"]),("carry",[.str "kind", .str "term", .str "term"]),("never",[.str "kind", .str "term"]),("pair",[.str "kind", .str "term", .str "term"]),("first",[.str "term"]),("second",[.str "term"]),("name",[])] as
 jZ:jC K t.eA [("all", .int 1),("some", .int 1),("fun", .int 1),("rec", .int 0),("carry", .int 0)]
theorem txt_mk{K:PySem.W.Frag}{h:Heap}{mg:Str->Option Value}(X:K.In h)(G:h.Ns mainGlobals mg){b:Addr}{c:Array DictEntry}{ox:Nat}{d n o p q r s u v w e f g i j k l m:Addr}{l6:Option Addr}{H:Array Value}{md:Nat}{kP:Array (Option Value)}{lT:Option Addr}{F:Array Value}{lP:Nat}{kD:Array (Option Value)}{Z:Option Addr}{E:Array Value}{mh:Nat}{lD:Array (Option Value)}{Y:Option Addr}{D:Array Value}{kE:Nat}{l0:Array (Option Value)}{W:Option Addr}{C:Array Value}{lM:Nat}{kO:Array (Option Value)}{V:Option Addr}{B:Array Value}{mz:Nat}{lN:Array (Option Value)}{U:Option Addr}{A:Array Value}{kZ:Nat}{lO:Array (Option Value)}{T:Option Addr}{z:Array Value}{lU:Nat}{mj:Array (Option Value)}{oy:Option Addr}{R:Array Value}{oI:Nat}{mO:Array (Option Value)}{nO:Option Addr}{Q:Array Value}{nN:Nat}{nM:Array (Option Value)}{oF:Option Addr}{P:Array Value}{n5:Nat}{nA:Array (Option Value)}{mY:Option Addr}{O:Array Value}{mS:Nat}{mG:Array (Option Value)}{nS:Option Addr}{N:Array Value}{n_:Nat}{ny:Array (Option Value)}{oC:Option Addr}{M:Array Value}{nC:Nat}{mV:Array (Option Value)}{ni:Option Addr}{L:Array Value}{m5:Nat}{ou:Array (Option Value)}{oB:Option Addr}{J:Array Value}{m9:Nat}{m_:Array (Option Value)}{nE:Option Addr}{I:Array Value}{mK:Nat}{mH:Array (Option Value)}{S:Option Addr}{y:Array Value}{om:Nat}{n9:Array (Option Value)}{a:Addr}{x:Array DictEntry}{iV:Nat}(a0:dF K "kids_of" eV)(a1:dF K "binds_of" c7)(a2:dF K "numbers_free" bO)(a3:dF K "free_in" eS)(a4:dF K "_law_cell_at" bR)(a5:dF K "_law_next" cV)(a6:dF K "_law_state" cI)(a7:dF K "_law_shape" cK)(a8:dF K "_law_name" cW)(a9:dF K "_law_grown" cF)(a10:dF K "_law_kids" c8)(a11:dF K "_law_binds" du)(a12:dF K "_law_alike" b_)(a13:dF K "_law_free" cX)(a14:dF K "_law_tree" dM)(a15:dF K "_law_deep" dW)(a16:dF K "law" nH)(z_bool:PySem.W.nsIn K mainGlobals "bool"=some none)(z_int:PySem.W.nsIn K mainGlobals "int"=some none)(z_isinstance:PySem.W.nsIn K mainGlobals "isinstance"=some none)(z_len:PySem.W.nsIn K mainGlobals "len"=some none)(z_list:PySem.W.nsIn K mainGlobals "list"=some none)(z_range:PySem.W.nsIn K mainGlobals "range"=some none)(z_set:PySem.W.nsIn K mainGlobals "set"=some none)(z_sorted:PySem.W.nsIn K mainGlobals "sorted"=some none)(z_tuple:PySem.W.nsIn K mainGlobals "tuple"=some none)(z_zip:PySem.W.nsIn K mainGlobals "zip"=some none)(g_KIDS_DUE:PySem.W.nsIn K mainGlobals "KIDS_DUE"=some (some (.ref b)))(lk_KIDS_DUE:K.lookup b=some ⟨.type "dict",none, .dict c ox,#[]⟩)(sy_KIDS_DUE:(b==sysModules)=false)(ks_KIDS_DUE:dP c.toList ["nat","none","all","some","same","var","fun","app","zero","next","rec","like","carry","never","pair","first","second","name"]=true)(rf_KIDS_DUE:refsOf c.toList=[d,n,o,p,q,r,s,u,v,w,e,f,g,i,j,k,l,m])(u0_KIDS_DUE:K.lookup d=some ⟨.type "tuple",S, .seq y om,n9⟩)(v0_KIDS_DUE:bC [] y=true)(u1_KIDS_DUE:K.lookup n=some ⟨.type "tuple",nE, .seq I mK,mH⟩)(v1_KIDS_DUE:bC [] I=true)(u2_KIDS_DUE:K.lookup o=some ⟨.type "tuple",oB, .seq J m9,m_⟩)(v2_KIDS_DUE:bC [.str "kind", .str "kind"] J=true)(u3_KIDS_DUE:K.lookup p=some ⟨.type "tuple",ni, .seq L m5,ou⟩)(v3_KIDS_DUE:bC [.str "kind", .str "kind"] L=true)(u4_KIDS_DUE:K.lookup q=some ⟨.type "tuple",oC, .seq M nC,mV⟩)(v4_KIDS_DUE:bC [.str "kind", .str "term", .str "term"] M=true)(u5_KIDS_DUE:K.lookup r=some ⟨.type "tuple",nS, .seq N n_,ny⟩)(v5_KIDS_DUE:bC [] N=true)(u6_KIDS_DUE:K.lookup s=some ⟨.type "tuple",mY, .seq O mS,mG⟩)(v6_KIDS_DUE:bC [.str "kind", .str "term"] O=true)(u7_KIDS_DUE:K.lookup u=some ⟨.type "tuple",oF, .seq P n5,nA⟩)(v7_KIDS_DUE:bC [.str "term", .str "term"] P=true)(u8_KIDS_DUE:K.lookup v=some ⟨.type "tuple",nO, .seq Q nN,nM⟩)(v8_KIDS_DUE:bC [] Q=true)(u9_KIDS_DUE:K.lookup w=some ⟨.type "tuple",oy, .seq R oI,mO⟩)(v9_KIDS_DUE:bC [.str "term"] R=true)(u10_KIDS_DUE:K.lookup e=some ⟨.type "tuple",T, .seq z lU,mj⟩)(v10_KIDS_DUE:bC [.str "kind", .str "term", .str "term", .str "term"] z=true)(u11_KIDS_DUE:K.lookup f=some ⟨.type "tuple",U, .seq A kZ,lO⟩)(v11_KIDS_DUE:bC [.str "kind", .str "term"] A=true)(u12_KIDS_DUE:K.lookup g=some ⟨.type "tuple",V, .seq B mz,lN⟩)(v12_KIDS_DUE:bC [.str "kind", .str "term", .str "term"] B=true)(u13_KIDS_DUE:K.lookup i=some ⟨.type "tuple",W, .seq C lM,kO⟩)(v13_KIDS_DUE:bC [.str "kind", .str "term"] C=true)(u14_KIDS_DUE:K.lookup j=some ⟨.type "tuple",Y, .seq D kE,l0⟩)(v14_KIDS_DUE:bC [.str "kind", .str "term", .str "term"] D=true)(u15_KIDS_DUE:K.lookup k=some ⟨.type "tuple",Z, .seq E mh,lD⟩)(v15_KIDS_DUE:bC [.str "term"] E=true)(u16_KIDS_DUE:K.lookup l=some ⟨.type "tuple",lT, .seq F lP,kD⟩)(v16_KIDS_DUE:bC [.str "term"] F=true)(u17_KIDS_DUE:K.lookup m=some ⟨.type "tuple",l6, .seq H md,kP⟩)(v17_KIDS_DUE:bC [] H=true)(g_BINDER_OVER:PySem.W.nsIn K mainGlobals "BINDER_OVER"=some (some (.ref a)))(lk_BINDER_OVER:K.lookup a=some ⟨.type "dict",none, .dict x iV,#[]⟩)(sy_BINDER_OVER:(a==sysModules)=false)(vs_BINDER_OVER:dU x.toList [("all",1),("some",1),("fun",1),("rec",0),("carry",0)]=true):∃t,Txt K mg t:=⟨⟨(),b,a⟩,⟨⟨PySem.W.mg_none_of X G z_bool,PySem.W.mg_none_of X G z_int,PySem.W.mg_none_of X G z_isinstance,PySem.W.mg_none_of X G z_len,PySem.W.mg_none_of X G z_list,PySem.W.mg_none_of X G z_range,PySem.W.mg_none_of X G z_set,PySem.W.mg_none_of X G z_sorted,PySem.W.mg_none_of X G z_tuple,PySem.W.mg_none_of X G z_zip,PySem.W.mg_of X G g_KIDS_DUE,PySem.W.mg_of X G g_BINDER_OVER⟩,a0.df X G λ_ _ _ _ _ _=>jS (λ_=>rfl),a1.df X G λ_ _ _ _ _ _=>jS (λ_=>rfl),a2.df X G λ_ _ _ _ _ _=>w_ (λ_ _=>rfl),a3.df X G λ_ _ _ _ _ _=>jS (λ_=>rfl),a4.df X G λ_ _ _ _ _ _=>w_ (λ_ _=>rfl),a5.df X G λ_ _ _ _ _ _=>jS (λ_=>rfl),a6.df X G λ_ _ _ _ _ _=>w_ (λ_ _=>rfl),a7.df X G λ_ _ _ _ _ _=>jS (λ_=>rfl),a8.df X G λ_ _ _ _ _ _=>jS (λ_=>rfl),a9.df X G λ_ _ _ _ _ _=>LU (λ_ _ _=>rfl),a10.df X G λ_ _ _ _ _ _=>jS (λ_=>rfl),a11.df X G λ_ _ _ _ _ _=>jS (λ_=>rfl),a12.df X G λ_ _ _ _ _ _=>w_ (λ_ _=>rfl),a13.df X G λ_ _ _ _ _ _=>w_ (λ_ _=>rfl),a14.df X G λ_ _ _ _ _ _=>jS (λ_=>rfl),a15.df X G λ_ _ _ _ _ _=>jS (λ_=>rfl),a16.df X G λ_ _ _ _ _ _=>jS (λ_=>rfl),⟨_,B2 sy_KIDS_DUE lk_KIDS_DUE ks_KIDS_DUE rf_KIDS_DUE rfl (bg (bK u0_KIDS_DUE v0_KIDS_DUE) (bg (bK u1_KIDS_DUE v1_KIDS_DUE) (bg (bK u2_KIDS_DUE v2_KIDS_DUE) (bg (bK u3_KIDS_DUE v3_KIDS_DUE) (bg (bK u4_KIDS_DUE v4_KIDS_DUE) (bg (bK u5_KIDS_DUE v5_KIDS_DUE) (bg (bK u6_KIDS_DUE v6_KIDS_DUE) (bg (bK u7_KIDS_DUE v7_KIDS_DUE) (bg (bK u8_KIDS_DUE v8_KIDS_DUE) (bg (bK u9_KIDS_DUE v9_KIDS_DUE) (bg (bK u10_KIDS_DUE v10_KIDS_DUE) (bg (bK u11_KIDS_DUE v11_KIDS_DUE) (bg (bK u12_KIDS_DUE v12_KIDS_DUE) (bg (bK u13_KIDS_DUE v13_KIDS_DUE) (bg (bK u14_KIDS_DUE v14_KIDS_DUE) (bg (bK u15_KIDS_DUE v15_KIDS_DUE) (bg (bK u16_KIDS_DUE v16_KIDS_DUE) (bg (bK u17_KIDS_DUE v17_KIDS_DUE) AX))))))))))))))))))⟩,xW sy_BINDER_OVER lk_BINDER_OVER vs_BINDER_OVER⟩⟩
theorem fin{l:PySem.W.OpenLaw}{w:World}{K:PySem.W.Frag}{mg:Str->Option Value}{t:vE}{fa:Addr}(T:Txt K mg t)(n:mg "law"=some (.ref fa)):∃fd:FuncData,(∀(s:Shared)(v:Value),BindsTo s fd ⟨[v],[]⟩ [("_law_script",v)])/\∀base:Heap,K.In base->base.Ns mainGlobals mg->f6 l.prog w K mg base bX 201 fa fd ["_law_script"] (qA K):=by
 obtain⟨f,fd,F,m,b⟩:=T.Dy;have e:=n.symm.trans m;cases e;refine⟨fd,?_,λbase _ _=>?_⟩;·obtain⟨oc,od,kV,doc,pm,an,cZ,ct,xu,rfl,C,B⟩:=F.ex;exactλs v=> .of_eq rfl
 obtain⟨as,d⟩:=T.pL;have g:=zk (P:=l.prog) (w:=w) T.j0 T.M;have h:=AH (P:=l.prog) (w:=w) T.p9;have i:=xO (P:=l.prog) (w:=w) T.mI;have a:=wF (P:=l.prog) (w:=w) T.nZ;have j:=Ak (P:=l.prog) (w:=w) T.pJ;have k:=qY T.oh T.M h j a 10;have c:=pC T.pR T.M a;have o:=nL T.nP T.M c;have p:=gX (P:=l.prog) (w:=w) T.m4 T.M 60;have q:=pO (P:=l.prog) (w:=w) T.pd T.M;have r:=oS (P:=l.prog) (w:=w) T.p8 T.M;have u:=ju T.pK T.M c o 60;have x:=sQ (P:=l.prog) (w:=w) T.tK T.M;have y:=pD (P:=l.prog) (w:=w) T.pM T.M d T.jZ;have z:=eF T.iX T.M x y 60;have A:=tw T.sU T.M z;exact BL F T.M g i k q r p u A
theorem walk{l:PySem.W.OpenLaw}{q:Program}{loose:List Str}{XP:(Str->Option Value)->Heap->Prop}{YP:World->Heap->Prop}{d:DefRec}{K:Params->PySem.W.Frag}(hn:l.most=some 63)(c:d.params.defaults=[])(b:∀(w:World)(h:Heap),YP w h->(K w.params).In h)(F:∀(w:World)(mg:Str->Option Value)(fa:Addr)(h:Heap),(K w.params).In h->h.Ns mainGlobals mg->mg d.name=some (.ref fa)->∃fd:FuncData,(∀(s:Shared)(u:Value),BindsTo s fd ⟨[u],[]⟩ [("_law_script",u)])/\∀base:Heap,(K w.params).In base->base.Ns mainGlobals mg->f6 l.prog w (K w.params) mg base bX 201 fa fd ["_law_script"] (qA (K w.params))):PySem.W.WalkO q loose XP YP l.row.toRowW d [] (λf vs=>PySem.call f vs):=L2.wH (n:=63) (k:=201) (x:="_law_script") (CX:=λ_=>bX) (sp:=λw=>qA (K w.params)) hn (by decide) c ⟨by decide,by decide,λ_=>rfl⟩ b F (λ_ _ a ns hl _ hS=>⟨a,ns,rfl,hS,λ_=>rfl⟩) λ_ _ _ _ _ z=>z
end K12
end
section
namespace HD
open PySem PySem.W PySem.Calls PyProof.Rows
noncomputable def lr{a:Type}:List a->List a×List a|[]=>([],[])|x::r=>(x::(lr r).2,(lr r).1)
noncomputable def zK:Nat->List Obj->BT|0,_=> .nil|_+1,[]=> .nil|n+1,x::r=> .node x (zK n (lr r).1) (zK n (lr r).2)
noncomputable def KW(l:List Obj):BT:=zK 14 l
noncomputable def i(n:Nat):Value:= .int (.ofNat n) 0
noncomputable def view(p:Program)(l:List Stmt):Program:={p with main:={p.main with body:=l}}
noncomputable abbrev gy(a:Type):Type:=World->(OsState->a)×(OsState->a)
def Ok{a:Type}(q:gy a):Prop:=∀w,(q w).1=(q w).2
theorem jS{b:Type}{q a:gy b}(e:q=a)(h:∀w,(a w).1=(a w).2):Ok q:=by subst e;exact h
theorem w_{f:Type}{q a b:gy f}(r:String)(c:(λw=>q (w.withFollow r false))=a)(d:(λw=>q (w.withFollow r true))=b)(e:∀w,(a w).1=(a w).2)(ht:∀w,(b w).1=(b w).2):Ok q:=by subst c d;exactλw=>byRow2 r (P:=λw=>(q w).1=(q w).2) e ht w
section
variable(p:Program)(m:Nat)(ann:Option Value)
noncomputable def pre(n:Nat)(S a:World->OsState->Shared)(t t':Thread):gy (Option (Shared×Thread)):=λw=>(λos=>topGo treeTable p w m ann n (S w os) t,λos=>some (a w os,t'))
noncomputable def F6(n:Nat)(S:World->OsState->Shared)(a:World->OsState->SharedT)(b:List Stmt)(env:Env)(c:Code)(d e:Pos)(B:List Frame):gy (Option (Flow×Shared×Code×Pos)):=λw=>(λos=>segRun treeTable p w m ann 1 n (S w os) (blockOf b env c d B),λos=>some (Flow.next,(a w os).abs,c,e))
noncomputable def seg(n:Nat)(S a:World->OsState->SharedT)(l:List Stmt)(env:Env)(c:Code)(b d:Pos)(B:List Frame):gy (Option (Flow×SharedT×Code×Pos)):=λw=>(λos=>segRunT treeTable p w m ann 1 n (S w os) (piecesOf l env c b B),λos=>some (Flow.next,a w os,c,d))
noncomputable def fin(n:Nat)(S:World->OsState->SharedT)(a:World->OsState->Shared)(t:Thread):gy (Option Shared):=λw=>(λos=>topRun treeTable p w m ann n (S w os).abs t,λos=>some (a w os))
variable{p:Program}{m:Nat}{ann:Option Value}
def Goes(p:Program)(m:Nat)(ann:Option Value)(R:World->OsState->Shared)(n:Nat)(S:World->OsState->Shared)(t:Thread):Prop:=∀w os,topRun treeTable p w m ann n (S w os) t=some (R w os)
noncomputable def wU(S:World->OsState->SharedT):World->OsState->Shared:=λw os=>(S w os).abs
theorem CW{n:Nat}{S:World->OsState->SharedT}{R:World->OsState->Shared}{env:Env}{c:Code}{a q:Pos}(h:Ok (fin p m ann n S R ⟨doneF .next,c,a,[topFrame q]⟩)):Goes p m ann R n (wU S) (restOf [] env c a [topFrame q]):=λw os=>piece_nil (congrFun (h w) os)
theorem v9{n N:Nat}{S a:World->OsState->SharedT}{R:World->OsState->Shared}{l rest:List Stmt}{env:Env}{c:Code}{b d q:Pos}(h:Ok (seg p m ann n S a l env c b d [topFrame q]))(k:Goes p m ann R N (wU a) (restOf rest env c d [topFrame q])):Goes p m ann R (n+N) (wU S) (restOf (l++rest) env c b [topFrame q]):=λw os=>piece_app (segRun_of (congrFun (h w) os)) (k w os)
theorem Er{n N:Nat}{S:World->OsState->Shared}{a:World->OsState->SharedT}{R:World->OsState->Shared}{b c:List Stmt}{env:Env}{d f q:Pos}(e:b=c)(h:Ok (F6 p m ann n S a b env (.body b env) d f [topFrame q]))(k:Goes p m ann R N (wU a) (restOf c env (.body b env) f [topFrame q])):Goes p m ann R (n+N) S ⟨denote treeTable (.body b env), .body b env,d,[topFrame q]⟩:=λw os=>by subst e;exact piece_block (congrFun (h w) os) (k w os)
theorem Cy{n N:Nat}{S a R:World->OsState->Shared}{t t':Thread}(h:Ok (pre p m ann n S a t t'))(k:Goes p m ann R N a t'):Goes p m ann R (n+N) S t:=λw os=>go_top (congrFun (h w) os) (k w os)
end
noncomputable def sz(m:Nat)(a:Option Value):gy (Bool×Nat×Option Value):=λw=>(λ_=>((boot_heap w.params).isNs mainGlobals&&(Array.mk []:Array GenState).size==0,(boot_heap w.params).objs.size,(boot_heap w.params).nsMap mainGlobals "__annotations__"),λ_=>(true,m,a))
noncomputable def Ej(H:Params->Heap)(d:Drawn)(k:Nat):World->OsState->Shared:=λw os=>⟨H w.params,Array.mk [],d,k,os⟩
noncomputable def la(p:Program)(H₁:Params->Heap)(d:Drawn)(k:Nat):gy Bool:=λw=>(λos=>(staticsOk (importedModules p.main.body) (boot_heap w.params) (H₁ w.params)&&namesBound p (H₁ w.params)&&gensDone ⟨H₁ w.params,Array.mk [],d,k,os⟩&&laidKept (boot_heap w.params) (H₁ w.params)),λ_=>true)
noncomputable def lb(p q:Program)(loose:List Str)(Xt:Shared->Bool)(H₁:Params->Heap)(d:Drawn)(k:Nat):=λ(w:World)=>((λ(os:OsState)=>openSeen q loose (importedModules p.main.body) Xt true ⟨H₁ w.params,Array.mk [],d,k,os⟩),(λ(_:OsState)=>openGood q loose))
noncomputable def lc(H:Hook)(H₁:Params->Heap)(d:Drawn)(k:Nat):gy H.α:=λw=>(λos=>H.obs ⟨H₁ w.params,Array.mk [],d,k,os⟩,λ_=>H.val w)
theorem left{p q:Program}{loose:List Str}{Xt:Shared->Bool}{H:Hook}{N m M:Nat}{a:Option Value}{H₁:Params->Heap}{d:Drawn}{k:Nat}(e:opening p=plainProg p.main.scope.names)(b:Nat.ble 600 N=true)(f:∀s,fenceModules? p s=some s)(size:Ok (sz m a))(run:Goes p m a (Ej H₁ d k) M (Ej boot_heap boot_drawn boot_toks) (topStub p))(le:Nat.ble M N=true)(ha:Ok (la p H₁ d k))(hb:Ok (lb p q loose Xt H₁ d k))(hc:Ok (lc H H₁ d k)):LeftO p q loose Xt H.obs H.val N:=LeftO.of_pieces (H₀:=boot_heap) (H₁:=H₁) (boot_open e b f) (λw=>congrFun (size w) default) run le λw=>funext λos=>looks_pair (congrFun (ha w) os) (looks_pair (congrFun (hb w) os) (congrFun (hc w) os))
noncomputable def tp(l:List Value):Obj:=⟨.type "tuple",none, .seq l.toArray 0,#[]⟩
noncomputable def fl(l:List Value):Obj:=⟨.none,none, .fields l.toArray,#[]⟩
noncomputable def e(P:Params)(x:Str)(n:Nat)(v:Value):DictEntry:=⟨PyData.keyHash P x, .str x n,v⟩
noncomputable def dc(l:List DictEntry)(n:Nat):Obj:=⟨.type "dict",none, .dict l.toArray n,#[]⟩
noncomputable def dm(o:Obj)(l:List DictEntry)(n:Nat):Obj:=match o.data with| .dict a _=>dc (a.toList++l) n|_=>o
noncomputable def fa(o:Obj)(l:List Value):Obj:=match o.data with| .fields a=>fl (a.toList++l)|_=>o
noncomputable abbrev F4:Type:=Option (Flow×SharedT×Code×Pos)
noncomputable def cd(n q f:Str)(a b c:Nat)(e g h j k r:Nat)(t:Bool)(m s:Nat)(l o p u:Value)(y z d:Nat):Obj:=⟨.type "code",none, .fields #[.str n a, .str q b, .str f c,i e,i g,i h,i j,i k, .ref r, .bool t,i m, .ref s,l,o,p,u,i y,i z, .str f d],#[]⟩
noncomputable def fs(n q:Str)(s:Stmt):Obj:=⟨.none,none, .func ⟨n,q,L2.cR s, .stmts (L2.cq s),L2.ao s,0,[], .none, .none, .none, .none,none, .none, .none,0⟩,#[]⟩
noncomputable def fu(n q:Str)(s:Stmt)(m:Str)(k c:Nat):Obj:=⟨.type "function",none, .func ⟨n,q,L2.cR s, .stmts (L2.cq s),L2.ao s,3,[], .none, .none, .none, .str m k,none, .ref c, .none,0⟩,#[]⟩
noncomputable def fm(a b c:Nat)(m:Str)(k:Nat):Obj:=⟨.type "frame",none, .plain,#[some (.ref a),some (.ref b),some (.ref c),none,some (.str m k),none,some (.ref 0)]⟩
noncomputable def bm(v w:Value):Obj:=⟨.type "builtin_function_or_method",none, .fields #[v,w],#[]⟩
noncomputable def cl(n:Str)(b m:List Value)(d:Nat)(s:List Value)(t k j:Nat)(v:Value):Obj:=⟨.type "type",none, .cls ⟨n,b,m,d,n,true,[],s,false,none,false⟩,#[some (.ref t),none,some (.str n k),some (.str n j),some v,some (.bool true)]⟩
noncomputable def sb(o:Obj)(l:List Value):Obj:=match o with|⟨c,d, .cls x,t⟩=>⟨c,d, .cls {x with subclasses:=x.subclasses++l},t⟩|_=>o
noncomputable def zS(l:List Obj):BT->Nat->BT:=@List.rec Obj (λ_=>BT->Nat->BT) (λt _=>t) (λo _ b t a=>b (t.ins a o) (Nat.succ a)) l
end HD
end
section
namespace K12
open PySem PySem.W PySem.Calls PyProof.Rows
noncomputable abbrev pw:Program:=PySem.Challenge.pw_keeper_k12_free_variables
noncomputable def ht(i:Nat):Stmt:=pw.main.body.getD i (.Pass ⟨0,0,0,0⟩)
noncomputable def IS:Str:= .ofString "__name__"
noncomputable def Jp:Str:= .ofString "__doc__"
noncomputable def Jr:Str:= .ofString "__package__"
noncomputable def IC:Str:= .ofString "__loader__"
noncomputable def Ib:Str:= .ofString "__spec__"
noncomputable def I_:Str:= .ofString "all"
noncomputable def FO:Str:= .ofString "next"
noncomputable def CB:Str:= .ofString "__main__"
noncomputable def yS:Str:= .ofString "__annotations__"
noncomputable def yA:Str:= .ofString "__builtins__"
noncomputable def yF:Str:= .ofString "__file__"
noncomputable def b9:Str:= .ofString "/claim/cut.py"
noncomputable def yW:Str:= .ofString "__cached__"
noncomputable def xZ:Str:= .ofString "<module>"
noncomputable def vB:Str:= .ofString "keeper.things"
noncomputable def y0:Str:= .ofString "KIDS_DUE"
noncomputable def CS:Str:= .ofString "nat"
noncomputable def Dh:Str:= .ofString "none"
noncomputable def yk:Str:= .ofString "some"
noncomputable def Ea:Str:= .ofString "same"
noncomputable def DL:Str:= .ofString "var"
noncomputable def y4:Str:= .ofString "fun"
noncomputable def BY:Str:= .ofString "app"
noncomputable def DS:Str:= .ofString "zero"
noncomputable def yQ:Str:= .ofString "rec"
noncomputable def DG:Str:= .ofString "like"
noncomputable def yD:Str:= .ofString "carry"
noncomputable def Ed:Str:= .ofString "never"
noncomputable def C2:Str:= .ofString "pair"
noncomputable def CA:Str:= .ofString "first"
noncomputable def Cw:Str:= .ofString "second"
noncomputable def yn:Str:= .ofString "name"
noncomputable def eO:Str:= .ofString "kind"
noncomputable def cM:Str:= .ofString "term"
noncomputable def Cp:Str:= .ofString "BINDER_OVER"
noncomputable def iR:Str:= .ofString "kids_of"
noncomputable def vc:Str:= .ofString "thing"
noncomputable def iO:Str:= .ofString "binds_of"
noncomputable def zf:Str:= .ofString "keeper.putting"
noncomputable def jt:Str:= .ofString "numbers_free"
noncomputable def DN:Str:= .ofString "binders"
noncomputable def Ek:Str:= .ofString "numbers"
noncomputable def Eo:Str:= .ofString "kid"
noncomputable def B8:Str:= .ofString "bound"
noncomputable def jx:Str:= .ofString "free_in"
noncomputable def dr:Str:= .ofString "law_keeper_k12_free_variables"
noncomputable def jk:Str:= .ofString "_law_cell_at"
noncomputable def Cq:Str:= .ofString "_law_script"
noncomputable def rF:Str:= .ofString "_law_k"
noncomputable def iI:Str:= .ofString "_law_next"
noncomputable def x3:Str:= .ofString "_law_state_here"
noncomputable def jm:Str:= .ofString "_law_state"
noncomputable def t_:Str:= .ofString "_law_cell"
noncomputable def EC:Str:= .ofString "_law_most"
noncomputable def iZ:Str:= .ofString "_law_shape"
noncomputable def um:Str:= .ofString "_law_word"
noncomputable def BR:Str:= .ofString "_law_shapes"
noncomputable def Dc:Str:= .ofString "_law_more"
noncomputable def jl:Str:= .ofString "_law_name"
noncomputable def yd:Str:= .ofString "_law_number"
noncomputable def BE:Str:= .ofString "_law_some"
noncomputable def jg:Str:= .ofString "_law_grown"
noncomputable def Dm:Str:= .ofString "_law_want"
noncomputable def Dz:Str:= .ofString "_law_left"
noncomputable def CQ:Str:= .ofString "_law_words"
noncomputable def Eu:Str:= .ofString "_law_parts"
noncomputable def BI:Str:= .ofString "_law_kind"
noncomputable def jd:Str:= .ofString "_law_kids"
noncomputable def jD:Str:= .ofString "_law_binds"
noncomputable def qk:Str:= .ofString "_law_thing"
noncomputable def jy:Str:= .ofString "_law_alike"
noncomputable def jo:Str:= .ofString "_law_free"
noncomputable def Cv:Str:= .ofString "_law_over"
noncomputable def C8:Str:= .ofString "_law_kids_here"
noncomputable def C4:Str:= .ofString "_law_binds_here"
noncomputable def Ct:Str:= .ofString "_law_found"
noncomputable def iS:Str:= .ofString "_law_tree"
noncomputable def i9:Str:= .ofString "_law_deep"
noncomputable def Dq:Str:= .ofString "_law_nat"
noncomputable def D5:Str:= .ofString "_law_deep_here"
noncomputable def CJ:Str:= .ofString "_law_way"
noncomputable def BN:Str:= .ofString "_law_side"
noncomputable def i6:Str:= .ofString "law"
variable(P:Params)
noncomputable def mD:Env:={scope:=pw.main.scope,locals:=mainNs,globals:=mainNs,cells:=[],code:=(.ref 13),frame:=some (nat_lit 14)}
noncomputable def fo:Code:= .body (behindTheImports pw) mD
noncomputable def jM:List Frame:=[topFrame ⟨0,0,0,0⟩]
noncomputable abbrev EX:World->OsState->Shared:=HD.Ej boot_heap boot_drawn boot_toks
def af:=HD.tp []
def aS:=HD.fl []
def vM:=HD.cd xZ xZ b9 182 183 184 1 0 0 0 0 11 false 181 12 .none .none .none .none 185 1 186
def uf:=HD.fm 13 3 3 CB 164
noncomputable def B5(r:List (Obj)):List (Obj):=PySem.W.boot_o_0 P::PySem.W.boot_o_1 P::PySem.W.boot_o_2 P::PySem.W.boot_o_3 P::PySem.W.boot_o_4 P::PySem.W.boot_o_5 P::PySem.W.boot_o_6 P::PySem.W.boot_o_7 P::PySem.W.boot_o_8 P::PySem.W.boot_o_9 P::PySem.W.boot_o_10 P::af::r
noncomputable def Et(r:List (Obj)):List (Obj):=aS::vM::uf::r
noncomputable def J9(P:Params):Heap:=⟨Array.mk (B5 P (Et [])),⟨[],[],[],0,[],[],false,#[],[],0,false,false,false,(.ofNat 0),[(.ofNat 2000),(.ofNat 10),(.ofNat 10)],false,0,true,[],[],0,false⟩⟩
noncomputable def K5:Drawn:=⟨0,0,0,0⟩
noncomputable def Lj:Nat:=nat_lit 187
noncomputable abbrev Bi:World->OsState->Shared:=HD.Ej J9 K5 Lj
noncomputable def IJ:HD.gy (Option (Shared×Thread)):=λw=>(λos=>topGo treeTable pw w (nat_lit 11) (some (.ref 6)) (nat_lit 12) (EX w os) (topStub pw),λos=>some (Bi w os,Thread.mk (denote treeTable fo) fo ⟨0,0,0,0⟩ jM))
theorem z3:HD.pre pw (nat_lit 11) (some (.ref 6)) (nat_lit 12) EX Bi (topStub pw) (Thread.mk (denote treeTable fo) fo ⟨0,0,0,0⟩ jM)=IJ:=by kernel_rfl
name_quick yI for IJ by z3
theorem Ls(w:World):(Fast.yI w).1=(Fast.yI w).2:=by kernel_rfl
theorem KP:HD.Ok (HD.pre pw (nat_lit 11) (some (.ref 6)) (nat_lit 12) EX Bi (topStub pw) (Thread.mk (denote treeTable fo) fo ⟨0,0,0,0⟩ jM)):=HD.jS Fast.yI_eq Ls
noncomputable def Dv(r:List (Obj)):List (Obj):=PySem.W.boot_o_0 P::PySem.W.boot_o_1 P::PySem.W.boot_o_2 P::PySem.W.boot_o_3 P::PySem.W.boot_o_4 P::PySem.W.boot_o_5 P::PySem.W.boot_o_6 P::PySem.W.boot_o_7 P::PySem.W.boot_o_8 P::PySem.W.boot_o_9 P::PySem.W.boot_o_10 P::af::r
noncomputable def Ee(r:List (Obj)):List (Obj):=aS::vM::uf::r
noncomputable def Jh(P:Params):BT:=HD.KW (Dv P (Ee []))
noncomputable def xH:Life:=⟨[],[],[],0,[],[],false,#[],[],0,false,false,false,(.ofNat 0),[(.ofNat 2000),(.ofNat 10),(.ofNat 10)],false,0,true,[],[],0,false⟩
noncomputable abbrev yg(w:World)(os:OsState):SharedT:=⟨Jh w.params,nat_lit 15,xH,Array.mk [],⟨0,0,0,0⟩,nat_lit 187,os⟩
noncomputable def HV:HD.gy (Option (Flow×Shared×Code×Pos)):=λw=>(λos=>segRun treeTable pw w (nat_lit 11) (some (.ref 6)) (nat_lit 1) (nat_lit 1) (Bi w os) (blockOf (behindTheImports pw) mD fo ⟨0,0,0,0⟩ jM),λos=>some (Flow.next,(yg w os).abs,fo,⟨0,0,0,0⟩))
theorem Aq:HD.F6 pw (nat_lit 11) (some (.ref 6)) (nat_lit 1) Bi yg (behindTheImports pw) mD fo ⟨0,0,0,0⟩ ⟨0,0,0,0⟩ jM=HV:=by kernel_rfl
name_quick ym for HV by Aq
theorem Ks(w:World):(Fast.ym w).1=(Fast.ym w).2:=by kernel_rfl
theorem Ka:HD.Ok (HD.F6 pw (nat_lit 11) (some (.ref 6)) (nat_lit 1) Bi yg (behindTheImports pw) mD fo ⟨0,0,0,0⟩ ⟨0,0,0,0⟩ jM):=HD.jS Fast.ym_eq Ks
def Fx:=HD.dc [HD.e P IS 165 (.str vB 187),HD.e P Jp 166 .none,HD.e P Jr 167 .none,HD.e P IC 168 (.builtin "__main__.__loader__#opaque"),HD.e P Ib 169 .none,HD.e P yS 170 (.ref 6),HD.e P yA 171 (.ref 4),HD.e P yF 173 (.str b9 172),HD.e P yW 174 .none,HD.e P y0 253 (.ref 15)] 10
def qi:=HD.dc [HD.e P CS 189 (.ref 16),HD.e P Dh 191 (.ref 17),HD.e P I_ 193 (.ref 18),HD.e P yk 197 (.ref 19),HD.e P Ea 201 (.ref 20),HD.e P DL 206 (.ref 21),HD.e P y4 208 (.ref 22),HD.e P BY 212 (.ref 23),HD.e P DS 216 (.ref 24),HD.e P FO 218 (.ref 25),HD.e P yQ 221 (.ref 26),HD.e P DG 227 (.ref 27),HD.e P yD 231 (.ref 28),HD.e P Ed 236 (.ref 29),HD.e P C2 240 (.ref 30),HD.e P CA 245 (.ref 31),HD.e P Cw 248 (.ref 32),HD.e P yn 251 (.ref 34)] 18
def qV:=HD.tp [(.str eO 194),(.str eO 195)]
def q_:=HD.tp [(.str eO 198),(.str eO 199)]
def qR:=HD.tp [(.str eO 202),(.str cM 203),(.str cM 204)]
def rq:=HD.tp [(.str eO 209),(.str cM 210)]
def qJ:=HD.tp [(.str cM 213),(.str cM 214)]
def rA:=HD.tp [(.str cM 219)]
def rX:=HD.tp [(.str eO 222),(.str cM 223),(.str cM 224),(.str cM 225)]
def qD:=HD.tp [(.str eO 228),(.str cM 229)]
def rM:=HD.tp [(.str eO 232),(.str cM 233),(.str cM 234)]
def qv:=HD.tp [(.str eO 237),(.str cM 238)]
def rS:=HD.tp [(.str eO 241),(.str cM 242),(.str cM 243)]
def rL:=HD.tp [(.str cM 246)]
def ql:=HD.tp [(.str cM 249)]
def yi:=HD.dc [HD.e P yn 251 (.ref 34)] 1
noncomputable def Bx:List Stmt:=[ht 0,ht 1]
noncomputable def Iv(P:Params):BT:=(HD.zS [qi P,af,af,qV,q_,qR,af,rq,qJ,af,rA,rX,qD,rM,qv,rS,rL,ql,yi P,af] ((Jh P).ins (nat_lit 3) (Fx P)) (nat_lit 15))
noncomputable abbrev wo(w:World)(os:OsState):SharedT:=⟨Iv w.params,nat_lit 35,xH,Array.mk [],⟨0,0,0,0⟩,nat_lit 254,os⟩
noncomputable def CN:HD.gy (HD.F4):=λw=>(λos=>segRunT treeTable pw (w.withFollow "special-get-raises" false) (nat_lit 11) (some (.ref 6)) (nat_lit 1) (nat_lit 349) (yg (w.withFollow "special-get-raises" false) os) (piecesOf Bx mD fo ⟨0,0,0,0⟩ jM),λos=>some (Flow.next,wo (w.withFollow "special-get-raises" false) os,fo,⟨2,0,2,8⟩))
theorem xa:(λw:World=>HD.seg pw (nat_lit 11) (some (.ref 6)) (nat_lit 349) yg wo Bx mD fo ⟨0,0,0,0⟩ ⟨2,0,2,8⟩ jM (w.withFollow "special-get-raises" false))=CN:=by kernel_rfl
name_quick vA for CN by xa
theorem Fh(w:World):(Fast.vA w).1=(Fast.vA w).2:=by kernel_rfl
noncomputable def CV:HD.gy (HD.F4):=λw=>(λos=>segRunT treeTable pw (w.withFollow "special-get-raises" true) (nat_lit 11) (some (.ref 6)) (nat_lit 1) (nat_lit 349) (yg (w.withFollow "special-get-raises" true) os) (piecesOf Bx mD fo ⟨0,0,0,0⟩ jM),λos=>some (Flow.next,wo (w.withFollow "special-get-raises" true) os,fo,⟨2,0,2,8⟩))
theorem wY:(λw:World=>HD.seg pw (nat_lit 11) (some (.ref 6)) (nat_lit 349) yg wo Bx mD fo ⟨0,0,0,0⟩ ⟨2,0,2,8⟩ jM (w.withFollow "special-get-raises" true))=CV:=by kernel_rfl
name_quick u7 for CV by wY
theorem Ft(w:World):(Fast.u7 w).1=(Fast.u7 w).2:=by kernel_rfl
theorem JK:HD.Ok (HD.seg pw (nat_lit 11) (some (.ref 6)) (nat_lit 349) yg wo Bx mD fo ⟨0,0,0,0⟩ ⟨2,0,2,8⟩ jM):=HD.w_ "special-get-raises" Fast.vA_eq Fast.u7_eq Fh Ft
def D3:=HD.dc [HD.e P IS 165 (.str dr 303),HD.e P Jp 166 .none,HD.e P Jr 167 .none,HD.e P IC 168 (.builtin "__main__.__loader__#opaque"),HD.e P Ib 169 .none,HD.e P yS 170 (.ref 6),HD.e P yA 171 (.ref 4),HD.e P yF 173 (.str b9 172),HD.e P yW 174 .none,HD.e P y0 253 (.ref 15),HD.e P Cp 269 (.ref 35),HD.e P iR 276 (.ref 42),HD.e P iO 282 (.ref 47),HD.e P jt 295 (.ref 54),HD.e P jx 302 (.ref 61),HD.e P jk 312 (.ref 68),HD.e P iI 319 (.ref 75),HD.e P jm 327 (.ref 82),HD.e P iZ 336 (.ref 89),HD.e P jl 345 (.ref 96)] 20
def yR:=HD.fl [(HD.i 4),(HD.i 0),(.ref 41),(HD.i 8),(HD.i 0),(.ref 46),(HD.i 12),(HD.i 0),(.ref 53),(HD.i 19),(HD.i 0),(.ref 60),(HD.i 22),(HD.i 0),(.ref 67),(HD.i 26),(HD.i 0),(.ref 74),(HD.i 30),(HD.i 0),(.ref 81),(HD.i 32),(HD.i 0),(.ref 88),(HD.i 40),(HD.i 0),(.ref 95)]
def qx:=HD.dc [HD.e P I_ 254 (.int (.ofNat 1) 255),HD.e P yk 256 (.int (.ofNat 1) 257),HD.e P y4 258 (.int (.ofNat 1) 259),HD.e P yQ 260 (.int (.ofNat 0) 261),HD.e P yD 262 (.int (.ofNat 0) 263)] 5
def qo:=HD.tp [(.str vc 273)]
def yT:=HD.fs iR iR (ht 3)
def rV:=HD.cd iR iR b9 270 271 272 4 1 0 0 3 36 true 181 37 .none (.ref 38) (.ref 39) (.ref 40) 274 4 275
def qU:=HD.fu iR iR (ht 3) vB 187 41
def yG:=HD.fs iO iO (ht 4)
def qQ:=HD.cd iO iO b9 277 278 279 8 1 0 0 3 43 true 181 44 .none .none .none (.ref 45) 280 8 281
def qO:=HD.fu iO iO (ht 4) vB 187 46
def qz:=HD.tp [(.str vc 288),(.str DN 289),(.str Ek 290),(.str Eo 291),(.str B8 292)]
def yt:=HD.fs jt jt (ht 6)
def rZ:=HD.cd jt jt b9 285 286 287 12 2 0 0 3 48 true 181 49 .none (.ref 50) (.ref 51) (.ref 52) 293 12 294
def rJ:=HD.fu jt jt (ht 6) zf 283 53
def qF:=HD.tp [(.str vc 299)]
def yM:=HD.fs jx jx (ht 7)
def qM:=HD.cd jx jx b9 296 297 298 19 1 0 0 3 55 true 181 56 .none (.ref 57) (.ref 58) (.ref 59) 300 19 301
def rK:=HD.fu jx jx (ht 7) zf 283 60
def rE:=HD.tp [(.str Cq 308),(.str rF 309)]
def y9:=HD.fs jk jk (ht 9)
def qg:=HD.cd jk jk b9 305 306 307 22 2 0 0 3 62 true 181 63 .none (.ref 64) (.ref 65) (.ref 66) 310 22 311
def qh:=HD.fu jk jk (ht 9) dr 303 67
def rG:=HD.tp [(.str x3 316)]
def yz:=HD.fs iI iI (ht 10)
def qB:=HD.cd iI iI b9 313 314 315 26 1 0 0 3 69 true 181 70 .none (.ref 71) (.ref 72) (.ref 73) 317 26 318
def rj:=HD.fu iI iI (ht 10) dr 303 74
def rn:=HD.tp [(.str t_ 323),(.str EC 324)]
def yZ:=HD.fs jm jm (ht 11)
def qN:=HD.cd jm jm b9 320 321 322 30 2 0 0 3 76 true 181 77 .none (.ref 78) (.ref 79) (.ref 80) 325 30 326
def qH:=HD.fu jm jm (ht 11) dr 303 81
def qm:=HD.tp [(.str um 331),(.str BR 332),(.str Dc 333)]
def yV:=HD.fs iZ iZ (ht 12)
def qp:=HD.cd iZ iZ b9 328 329 330 32 1 0 0 3 83 true 181 84 .none (.ref 85) (.ref 86) (.ref 87) 334 32 335
def qL:=HD.fu iZ iZ (ht 12) dr 303 88
def qd:=HD.tp [(.str yd 340),(.str BE 341),(.str um 342)]
def yJ:=HD.fs jl jl (ht 13)
def r8:=HD.cd jl jl b9 337 338 339 40 1 0 0 3 90 true 181 91 .none (.ref 92) (.ref 93) (.ref 94) 343 40 344
def rl:=HD.fu jl jl (ht 13) dr 303 95
noncomputable def Be:List Stmt:=[ht 2,ht 3,ht 4,ht 5,ht 6,ht 7,ht 8,ht 9,ht 10,ht 11,ht 12,ht 13]
noncomputable def IP(P:Params):BT:=(HD.zS [qx P,af,aS,qo,af,yT,rV,qU,af,aS,yG,qQ,qO,af,aS,qz,af,yt,rZ,rJ,af,aS,qF,af,yM,qM,rK,af,aS,rE,af,y9,qg,qh,af,aS,rG,af,yz,qB,rj,af,aS,rn,af,yZ,qN,qH,af,aS,qm,af,yV,qp,qL,af,aS,qd,af,yJ,r8,rl] (((Iv P).ins (nat_lit 3) (D3 P)).ins (nat_lit 12) (yR)) (nat_lit 35))
noncomputable abbrev yr(w:World)(os:OsState):SharedT:=⟨IP w.params,nat_lit 97,xH,Array.mk [],⟨0,0,0,0⟩,nat_lit 346,os⟩
noncomputable def EB:HD.gy (HD.F4):=λw=>(λos=>segRunT treeTable pw (w.withFollow "special-get-raises" false) (nat_lit 11) (some (.ref 6)) (nat_lit 1) (nat_lit 372) (wo (w.withFollow "special-get-raises" false) os) (piecesOf Be mD fo ⟨2,0,2,8⟩ jM),λos=>some (Flow.next,yr (w.withFollow "special-get-raises" false) os,fo,⟨40,0,47,20⟩))
theorem xw:(λw:World=>HD.seg pw (nat_lit 11) (some (.ref 6)) (nat_lit 372) wo yr Be mD fo ⟨2,0,2,8⟩ ⟨40,0,47,20⟩ jM (w.withFollow "special-get-raises" false))=EB:=by kernel_rfl
name_quick vY for EB by xw
theorem Hk(w:World):(Fast.vY w).1=(Fast.vY w).2:=by kernel_rfl
noncomputable def CO:HD.gy (HD.F4):=λw=>(λos=>segRunT treeTable pw (w.withFollow "special-get-raises" true) (nat_lit 11) (some (.ref 6)) (nat_lit 1) (nat_lit 372) (wo (w.withFollow "special-get-raises" true) os) (piecesOf Be mD fo ⟨2,0,2,8⟩ jM),λos=>some (Flow.next,yr (w.withFollow "special-get-raises" true) os,fo,⟨40,0,47,20⟩))
theorem xR:(λw:World=>HD.seg pw (nat_lit 11) (some (.ref 6)) (nat_lit 372) wo yr Be mD fo ⟨2,0,2,8⟩ ⟨40,0,47,20⟩ jM (w.withFollow "special-get-raises" true))=CO:=by kernel_rfl
name_quick uH for CO by xR
theorem G2(w:World):(Fast.uH w).1=(Fast.uH w).2:=by kernel_rfl
theorem Kp:HD.Ok (HD.seg pw (nat_lit 11) (some (.ref 6)) (nat_lit 372) wo yr Be mD fo ⟨2,0,2,8⟩ ⟨40,0,47,20⟩ jM):=HD.w_ "special-get-raises" Fast.vY_eq Fast.uH_eq Hk G2
def wA:=HD.dm (D3 P) [HD.e P jg 359 (.ref 103),HD.e P jd 365 (.ref 108),HD.e P jD 372 (.ref 115),HD.e P jy 378 (.ref 120),HD.e P jo 390 (.ref 127),HD.e P iS 399 (.ref 134),HD.e P i9 412 (.ref 141),HD.e P i6 418 (.ref 146)] 28
def x_:=HD.fa (yR) [(HD.i 48),(HD.i 0),(.ref 102),(HD.i 68),(HD.i 0),(.ref 107),(HD.i 71),(HD.i 0),(.ref 114),(HD.i 77),(HD.i 0),(.ref 119),(HD.i 83),(HD.i 0),(.ref 126),(HD.i 92),(HD.i 0),(.ref 133),(HD.i 100),(HD.i 0),(.ref 140),(HD.i 122),(HD.i 0),(.ref 145)]
def qa:=HD.tp [(.str x3 349),(.str Dm 350),(.str Dz 351),(.str yd 352),(.str CQ 353),(.str um 354),(.str Eu 355),(.str BI 356)]
def vR:=HD.fs jg jg (ht 14)
def kM:=HD.cd jg jg b9 346 347 348 48 3 0 0 3 97 true 181 98 .none (.ref 99) (.ref 100) (.ref 101) 357 48 358
def kQ:=HD.fu jg jg (ht 14) dr 303 102
def we:=HD.fs jd jd (ht 15)
def lu:=HD.cd jd jd b9 360 361 362 68 1 0 0 3 104 true 181 105 .none .none .none (.ref 106) 363 68 364
def mf:=HD.fu jd jd (ht 15) dr 303 107
def mx:=HD.tp [(.str qk 369)]
def uF:=HD.fs jD jD (ht 16)
def lB:=HD.cd jD jD b9 366 367 368 71 1 0 0 3 109 true 181 110 .none (.ref 111) (.ref 112) (.ref 113) 370 71 371
def lV:=HD.fu jD jD (ht 16) dr 303 114
def v8:=HD.fs jy jy (ht 17)
def ll:=HD.cd jy jy b9 373 374 375 77 2 0 0 3 116 true 181 117 .none .none .none (.ref 118) 376 77 377
def lL:=HD.fu jy jy (ht 17) dr 303 119
def lg:=HD.tp [(.str qk 382),(.str Cv 383),(.str C8 384),(.str C4 385),(.str Ct 386),(.str rF 387)]
def vb:=HD.fs jo jo (ht 18)
def lq:=HD.cd jo jo b9 379 380 381 83 2 0 0 3 121 true 181 122 .none (.ref 123) (.ref 124) (.ref 125) 388 83 389
def l9:=HD.fu jo jo (ht 18) dr 303 126
def lC:=HD.tp [(.str t_ 394),(.str qk 395),(.str rF 396)]
def wg:=HD.fs iS iS (ht 19)
def kU:=HD.cd iS iS b9 391 392 393 92 1 0 0 3 128 true 181 129 .none (.ref 130) (.ref 131) (.ref 132) 397 92 398
def lW:=HD.fu iS iS (ht 19) dr 303 133
def l3:=HD.tp [(.str t_ 403),(.str Dq 404),(.str qk 405),(.str D5 406),(.str rF 407),(.str CJ 408),(.str BN 409)]
def vL:=HD.fs i9 i9 (ht 20)
def lK:=HD.cd i9 i9 b9 400 401 402 100 1 0 0 3 135 true 181 136 .none (.ref 137) (.ref 138) (.ref 139) 410 100 411
def mi:=HD.fu i9 i9 (ht 20) dr 303 140
def vj:=HD.fs i6 i6 (ht 21)
def lG:=HD.cd i6 i6 b9 413 414 415 122 1 0 0 3 142 true 181 143 .none .none .none (.ref 144) 416 122 417
def lF:=HD.fu i6 i6 (ht 21) dr 303 145
noncomputable def EZ:List Stmt:=[ht 14,ht 15,ht 16,ht 17,ht 18,ht 19,ht 20,ht 21]
noncomputable def K9(P:Params):BT:=(HD.zS [af,aS,qa,af,vR,kM,kQ,af,aS,we,lu,mf,af,aS,mx,af,uF,lB,lV,af,aS,v8,ll,lL,af,aS,lg,af,vb,lq,l9,af,aS,lC,af,wg,kU,lW,af,aS,l3,af,vL,lK,mi,af,aS,vj,lG,lF] (((IP P).ins (nat_lit 3) (wA P)).ins (nat_lit 12) (x_)) (nat_lit 97))
noncomputable abbrev Bg(w:World)(os:OsState):SharedT:=⟨K9 w.params,nat_lit 147,xH,Array.mk [],⟨0,0,0,0⟩,nat_lit 419,os⟩
noncomputable def Ia:HD.gy (HD.F4):=λw=>(λos=>segRunT treeTable pw w (nat_lit 11) (some (.ref 6)) (nat_lit 1) (nat_lit 244) (yr w os) (piecesOf EZ mD fo ⟨40,0,47,20⟩ jM),λos=>some (Flow.next,Bg w os,fo,⟨122,0,132,88⟩))
theorem zY:HD.seg pw (nat_lit 11) (some (.ref 6)) (nat_lit 244) yr Bg EZ mD fo ⟨40,0,47,20⟩ ⟨122,0,132,88⟩ jM=Ia:=by kernel_rfl
name_quick yv for Ia by zY
theorem Lh(w:World):(Fast.yv w).1=(Fast.yv w).2:=by kernel_rfl
theorem K8:HD.Ok (HD.seg pw (nat_lit 11) (some (.ref 6)) (nat_lit 244) yr Bg EZ mD fo ⟨40,0,47,20⟩ ⟨122,0,132,88⟩ jM):=HD.jS Fast.yv_eq Lh
noncomputable def Cr(r:List (Obj)):List (Obj):=PySem.W.boot_o_0 P::PySem.W.boot_o_1 P::PySem.W.boot_o_2 P::wA P::PySem.W.boot_o_4 P::PySem.W.boot_o_5 P::PySem.W.boot_o_6 P::PySem.W.boot_o_7 P::PySem.W.boot_o_8 P::PySem.W.boot_o_9 P::PySem.W.boot_o_10 P::af::r
noncomputable def BD(r:List (Obj)):List (Obj):=x_::vM::uf::qi P::af::af::qV::q_::qR::af::rq::qJ::r
noncomputable def CM(r:List (Obj)):List (Obj):=af::rA::rX::qD::rM::qv::rS::rL::ql::yi P::af::qx P::r
noncomputable def D9(r:List (Obj)):List (Obj):=af::aS::qo::af::yT::rV::qU::af::aS::yG::qQ::qO::r
noncomputable def D4(r:List (Obj)):List (Obj):=af::aS::qz::af::yt::rZ::rJ::af::aS::qF::af::yM::r
noncomputable def BJ(r:List (Obj)):List (Obj):=qM::rK::af::aS::rE::af::y9::qg::qh::af::aS::rG::r
noncomputable def Ef(r:List (Obj)):List (Obj):=af::yz::qB::rj::af::aS::rn::af::yZ::qN::qH::af::r
noncomputable def Ez(r:List (Obj)):List (Obj):=aS::qm::af::yV::qp::qL::af::aS::qd::af::yJ::r8::r
noncomputable def DV(r:List (Obj)):List (Obj):=rl::af::aS::qa::af::vR::kM::kQ::af::aS::we::lu::r
noncomputable def DF(r:List (Obj)):List (Obj):=mf::af::aS::mx::af::uF::lB::lV::af::aS::v8::ll::r
noncomputable def zN(r:List (Obj)):List (Obj):=lL::af::aS::lg::af::vb::lq::l9::af::aS::lC::af::r
noncomputable def z4(r:List (Obj)):List (Obj):=wg::kU::lW::af::aS::l3::af::vL::lK::mi::af::aS::r
noncomputable def zR(r:List (Obj)):List (Obj):=vj::lG::lF::r
noncomputable def wu(P:Params):Heap:=⟨Array.mk (Cr P (BD P (CM P (D9 (D4 (BJ (Ef (Ez (DV (DF (zN (z4 (zR []))))))))))))),⟨[],[],[],0,[],[],false,#[],[],0,false,false,false,(.ofNat 0),[(.ofNat 2000),(.ofNat 10),(.ofNat 10)],false,0,true,[],[],0,false⟩⟩
noncomputable def As:Drawn:=⟨0,0,0,0⟩
noncomputable def AK:Nat:=nat_lit 419
noncomputable abbrev AF:World->OsState->Shared:=HD.Ej wu As AK
noncomputable def IW:HD.gy (Option Shared):=λw=>(λos=>topRun treeTable pw w (nat_lit 11) (some (.ref 6)) (nat_lit 2) (Bg w os).abs (Thread.mk (doneF Flow.next) fo ⟨122,0,132,88⟩ jM),λos=>some (AF w os))
theorem Ab:HD.fin pw (nat_lit 11) (some (.ref 6)) (nat_lit 2) Bg AF (Thread.mk (doneF Flow.next) fo ⟨122,0,132,88⟩ jM)=IW:=by kernel_rfl
name_quick yq for IW by Ab
theorem Ki(w:World):(Fast.yq w).1=(Fast.yq w).2:=by kernel_rfl
theorem K1:HD.Ok (HD.fin pw (nat_lit 11) (some (.ref 6)) (nat_lit 2) Bg AF (Thread.mk (doneF Flow.next) fo ⟨122,0,132,88⟩ jM)):=HD.jS Fast.yq_eq Ki
theorem FK:behindTheImports pw=(Bx++(Be++(EZ++([]:List Stmt)))):=by kernel_rfl
theorem D6:HD.Goes pw (nat_lit 11) (some (.ref 6)) AF (nat_lit 12+(nat_lit 1+(nat_lit 349+(nat_lit 372+(nat_lit 244+(nat_lit 2)))))) EX (topStub pw):=HD.Cy KP (HD.Er FK Ka (HD.v9 JK (HD.v9 Kp (HD.v9 K8 (HD.CW (env:=mD) K1)))))
noncomputable def hq:Program:=HD.view pw [ht 1,ht 2,ht 3,ht 4,ht 6,ht 7,ht 9,ht 10,ht 11,ht 12,ht 13,ht 14,ht 15,ht 16,ht 17,ht 18,ht 19,ht 20,ht 21]
noncomputable def hl:List Str:=[PySem.Str.ofString "KIDS_DUE",PySem.Str.ofString "BINDER_OVER"]
noncomputable def B1(r:List (Addr×Obj)):List (Addr×Obj):=(nat_lit 2,PySem.W.boot_o_2 P)::(nat_lit 3,wA P)::(nat_lit 15,qi P)::(nat_lit 16,af)::(nat_lit 17,af)::(nat_lit 18,qV)::(nat_lit 19,q_)::(nat_lit 20,qR)::(nat_lit 21,af)::(nat_lit 22,rq)::(nat_lit 23,qJ)::(nat_lit 24,af)::r
noncomputable def CY(r:List (Addr×Obj)):List (Addr×Obj):=(nat_lit 25,rA)::(nat_lit 26,rX)::(nat_lit 27,qD)::(nat_lit 28,rM)::(nat_lit 29,qv)::(nat_lit 30,rS)::(nat_lit 31,rL)::(nat_lit 32,ql)::(nat_lit 34,af)::(nat_lit 35,qx P)::(nat_lit 36,af)::(nat_lit 38,qo)::r
noncomputable def Cm(r:List (Addr×Obj)):List (Addr×Obj):=(nat_lit 39,af)::(nat_lit 41,rV)::(nat_lit 42,qU)::(nat_lit 43,af)::(nat_lit 46,qQ)::(nat_lit 47,qO)::(nat_lit 48,af)::(nat_lit 50,qz)::(nat_lit 51,af)::(nat_lit 53,rZ)::(nat_lit 54,rJ)::(nat_lit 55,af)::r
noncomputable def Eh(r:List (Addr×Obj)):List (Addr×Obj):=(nat_lit 57,qF)::(nat_lit 58,af)::(nat_lit 60,qM)::(nat_lit 61,rK)::(nat_lit 62,af)::(nat_lit 64,rE)::(nat_lit 65,af)::(nat_lit 67,qg)::(nat_lit 68,qh)::(nat_lit 69,af)::(nat_lit 71,rG)::(nat_lit 72,af)::r
noncomputable def Cd(r:List (Addr×Obj)):List (Addr×Obj):=(nat_lit 74,qB)::(nat_lit 75,rj)::(nat_lit 76,af)::(nat_lit 78,rn)::(nat_lit 79,af)::(nat_lit 81,qN)::(nat_lit 82,qH)::(nat_lit 83,af)::(nat_lit 85,qm)::(nat_lit 86,af)::(nat_lit 88,qp)::(nat_lit 89,qL)::r
noncomputable def CT(r:List (Addr×Obj)):List (Addr×Obj):=(nat_lit 90,af)::(nat_lit 92,qd)::(nat_lit 93,af)::(nat_lit 95,r8)::(nat_lit 96,rl)::(nat_lit 97,af)::(nat_lit 99,qa)::(nat_lit 100,af)::(nat_lit 102,kM)::(nat_lit 103,kQ)::(nat_lit 104,af)::(nat_lit 107,lu)::r
noncomputable def C1(r:List (Addr×Obj)):List (Addr×Obj):=(nat_lit 108,mf)::(nat_lit 109,af)::(nat_lit 111,mx)::(nat_lit 112,af)::(nat_lit 114,lB)::(nat_lit 115,lV)::(nat_lit 116,af)::(nat_lit 119,ll)::(nat_lit 120,lL)::(nat_lit 121,af)::(nat_lit 123,lg)::(nat_lit 124,af)::r
noncomputable def Ec(r:List (Addr×Obj)):List (Addr×Obj):=(nat_lit 126,lq)::(nat_lit 127,l9)::(nat_lit 128,af)::(nat_lit 130,lC)::(nat_lit 131,af)::(nat_lit 133,kU)::(nat_lit 134,lW)::(nat_lit 135,af)::(nat_lit 137,l3)::(nat_lit 138,af)::(nat_lit 140,lK)::(nat_lit 141,mi)::r
noncomputable def C7(r:List (Addr×Obj)):List (Addr×Obj):=(nat_lit 142,af)::(nat_lit 145,lG)::(nat_lit 146,lF)::r
noncomputable def Fy(P:Params):List (Addr×Obj):=(B1 P (CY P (Cm (Eh (Cd (CT (C1 (Ec (C7 [])))))))))
noncomputable def LA(P:Params):Frag:=(nat_lit 2,PySem.W.boot_o_2 P)::(nat_lit 3,wA P)::(nat_lit 15,qi P)::(nat_lit 16,af)::(nat_lit 17,af)::(nat_lit 18,qV)::(nat_lit 19,q_)::(nat_lit 20,qR)::(nat_lit 21,af)::(nat_lit 22,rq)::(nat_lit 23,qJ)::(nat_lit 24,af)::(nat_lit 25,rA)::(nat_lit 26,rX)::(nat_lit 27,qD)::(nat_lit 28,rM)::(nat_lit 29,qv)::(nat_lit 30,rS)::(nat_lit 31,rL)::(nat_lit 32,ql)::(nat_lit 34,af)::(nat_lit 35,qx P)::(nat_lit 36,af)::(nat_lit 38,qo)::(nat_lit 39,af)::(nat_lit 41,rV)::(nat_lit 42,qU)::(nat_lit 43,af)::(nat_lit 46,qQ)::(nat_lit 47,qO)::(nat_lit 48,af)::(nat_lit 50,qz)::(nat_lit 51,af)::(nat_lit 53,rZ)::(nat_lit 54,rJ)::(nat_lit 55,af)::(nat_lit 57,qF)::(nat_lit 58,af)::(nat_lit 60,qM)::(nat_lit 61,rK)::(nat_lit 62,af)::(nat_lit 64,rE)::(nat_lit 65,af)::(nat_lit 67,qg)::(nat_lit 68,qh)::(nat_lit 69,af)::(nat_lit 71,rG)::(nat_lit 72,af)::(nat_lit 74,qB)::(nat_lit 75,rj)::(nat_lit 76,af)::(nat_lit 78,rn)::(nat_lit 79,af)::(nat_lit 81,qN)::(nat_lit 82,qH)::(nat_lit 83,af)::(nat_lit 85,qm)::(nat_lit 86,af)::(nat_lit 88,qp)::(nat_lit 89,qL)::(nat_lit 90,af)::(nat_lit 92,qd)::(nat_lit 93,af)::(nat_lit 95,r8)::(nat_lit 96,rl)::(nat_lit 97,af)::(nat_lit 99,qa)::(nat_lit 100,af)::(nat_lit 102,kM)::(nat_lit 103,kQ)::(nat_lit 104,af)::(nat_lit 107,lu)::(nat_lit 108,mf)::(nat_lit 109,af)::(nat_lit 111,mx)::(nat_lit 112,af)::(nat_lit 114,lB)::(nat_lit 115,lV)::(nat_lit 116,af)::(nat_lit 119,ll)::(nat_lit 120,lL)::(nat_lit 121,af)::(nat_lit 123,lg)::(nat_lit 124,af)::(nat_lit 126,lq)::(nat_lit 127,l9)::(nat_lit 128,af)::(nat_lit 130,lC)::(nat_lit 131,af)::(nat_lit 133,kU)::(nat_lit 134,lW)::(nat_lit 135,af)::(nat_lit 137,l3)::(nat_lit 138,af)::(nat_lit 140,lK)::(nat_lit 141,mi)::(nat_lit 142,af)::(nat_lit 145,lG)::(nat_lit 146,lF)::[]
noncomputable def Iq:List Addr:=[nat_lit 2,nat_lit 3,nat_lit 15,nat_lit 16,nat_lit 17,nat_lit 18,nat_lit 19,nat_lit 20,nat_lit 21,nat_lit 22,nat_lit 23,nat_lit 24,nat_lit 25,nat_lit 26,nat_lit 27,nat_lit 28,nat_lit 29,nat_lit 30,nat_lit 31,nat_lit 32,nat_lit 34,nat_lit 35,nat_lit 36,nat_lit 38,nat_lit 39,nat_lit 41,nat_lit 42,nat_lit 43,nat_lit 46,nat_lit 47,nat_lit 48,nat_lit 50,nat_lit 51,nat_lit 53,nat_lit 54,nat_lit 55,nat_lit 57,nat_lit 58,nat_lit 60,nat_lit 61,nat_lit 62,nat_lit 64,nat_lit 65,nat_lit 67,nat_lit 68,nat_lit 69,nat_lit 71,nat_lit 72,nat_lit 74,nat_lit 75,nat_lit 76,nat_lit 78,nat_lit 79,nat_lit 81,nat_lit 82,nat_lit 83,nat_lit 85,nat_lit 86,nat_lit 88,nat_lit 89,nat_lit 90,nat_lit 92,nat_lit 93,nat_lit 95,nat_lit 96,nat_lit 97,nat_lit 99,nat_lit 100,nat_lit 102,nat_lit 103,nat_lit 104,nat_lit 107,nat_lit 108,nat_lit 109,nat_lit 111,nat_lit 112,nat_lit 114,nat_lit 115,nat_lit 116,nat_lit 119,nat_lit 120,nat_lit 121,nat_lit 123,nat_lit 124,nat_lit 126,nat_lit 127,nat_lit 128,nat_lit 130,nat_lit 131,nat_lit 133,nat_lit 134,nat_lit 135,nat_lit 137,nat_lit 138,nat_lit 140,nat_lit 141,nat_lit 142,nat_lit 145,nat_lit 146]
noncomputable def hX(s:Shared):Bool:=xlAt hq [] s&&recOk [] s
noncomputable abbrev hH:Hook:=kHook LA Iq (λ_=>by kernel_rfl)
noncomputable def IY:HD.gy ((Bool×Nat×Option Value)):=λw=>(λos=>((boot_heap w.params).isNs mainGlobals&&(Array.mk []:Array GenState).size==0,(boot_heap w.params).objs.size,(boot_heap w.params).nsMap mainGlobals "__annotations__"),λos=>(true,(nat_lit 11),(some (.ref 6))))
theorem Ay:HD.sz (nat_lit 11) (some (.ref 6))=IY:=by kernel_rfl
name_quick yC for IY by Ay
theorem LY(w:World):(Fast.yC w).1=(Fast.yC w).2:=by kernel_rfl
theorem JZ:HD.Ok (HD.sz (nat_lit 11) (some (.ref 6))):=HD.jS Fast.yC_eq LY
noncomputable def DW:HD.gy (Bool):=λw=>(λos=>(staticsOk (importedModules pw.main.body) (boot_heap w.params) (wu w.params)&&namesBound pw (wu w.params)&&gensDone (AF w os)&&laidKept (boot_heap w.params) (wu w.params)),λos=>true)
theorem xl:HD.la pw wu As AK=DW:=by kernel_rfl
name_quick vz for DW by xl
theorem G0(w:World):(Fast.vz w).1=(Fast.vz w).2:=by kernel_rfl
theorem F3:HD.Ok (HD.la pw wu As AK):=HD.jS Fast.vz_eq G0
noncomputable def B7(w:World):=((λos:OsState=>openSeen hq hl (importedModules pw.main.body) hX true (AF w os)),(λ_:OsState=>openGood hq hl))
theorem xf:HD.lb pw hq hl hX wu As AK=B7:=by kernel_rfl
name_quick uR for B7 by xf
theorem F7(w:World):(Fast.uR w).1=(Fast.uR w).2:=by kernel_rfl
theorem Hm:HD.Ok (HD.lb pw hq hl hX wu As AK):=HD.jS Fast.uR_eq F7
noncomputable def Em:HD.gy ((List (Option Obj))):=λw=>(λos=>Iq.map (AF w os).heap.get?,λos=>(Fy w.params).map λp=>some p.2)
theorem xc:HD.lc hH wu As AK=Em:=by kernel_rfl
name_quick uB for Em by xc
theorem Fg(w:World):(Fast.uB w).1=(Fast.uB w).2:=by kernel_rfl
theorem F2:HD.Ok (HD.lc hH wu As AK):=HD.jS Fast.uB_eq Fg
theorem hleft:LeftO pw hq hl hX hH.obs hH.val 2050:=HD.left (by kernel_rfl) (by decide) (λs=>by kernel_rfl) JZ D6 (by decide+kernel) F3 Hm F2
end K12
end
open PySem PySem.W PyProof.Rows
set_option maxRecDepth 100000 in
set_option maxHeartbeats 0 in
theorem PySem.Challenge.cw_keeper_k12_free_variables_holds : PySem.Challenge.rw_keeper_k12_free_variables.Holds := by
  w_on; o_law
  refine PySem.W.holds_open (q := K12.hq) (loose := K12.hl) (Xt := K12.hX) (XP := PySem.W.XL K12.hq []) (Yf := PySem.W.Hook.obs K12.hH) (Ya := PySem.W.Hook.val K12.hH) (YP := PySem.W.Hook.says K12.hH) (N := 2050) K12.hleft (PySem.W.Hook.of _) (PySem.W.Hook.keeps _) (fun s e => PySem.W.xl_of s (Bool.and_eq_true_iff.mp e).1) PySem.W.XL.keeps (by rfl) (by rfl) (by rfl) (fun s e => PySem.W.recFacts_of (Bool.and_eq_true_iff.mp e).2) (by rfl) (by assumption) (by decide +kernel) ⟨rfl, rfl, rfl, rfl, rfl, by decide +kernel⟩ ?hw ?hc
  case hw => w_witness2
  delta K12.hH
  k_fill
  refine K12.walk (l := PySem.Challenge.rw_keeper_k12_free_variables) rfl rfl (fun w h Y => PySem.W.kIn_of Y) ?F
  case F =>
    intro w mg fa h KX G hmg
    have T : ∃ t, K12.Txt (L2.KOf KX) mg t := by
      dsimp only [L2.KOf]
      refine' K12.txt_mk KX G ?a0 ?a1 ?a2 ?a3 ?a4 ?a5 ?a6 ?a7 ?a8 ?a9 ?a10 ?a11 ?a12 ?a13 ?a14 ?a15 ?a16 ?z_bool ?z_int ?z_isinstance ?z_len ?z_list ?z_range ?z_set ?z_sorted ?z_tuple ?z_zip ?g_KIDS_DUE ?lk_KIDS_DUE ?sy_KIDS_DUE ?ks_KIDS_DUE ?rf_KIDS_DUE ?u0_KIDS_DUE ?v0_KIDS_DUE ?u1_KIDS_DUE ?v1_KIDS_DUE ?u2_KIDS_DUE ?v2_KIDS_DUE ?u3_KIDS_DUE ?v3_KIDS_DUE ?u4_KIDS_DUE ?v4_KIDS_DUE ?u5_KIDS_DUE ?v5_KIDS_DUE ?u6_KIDS_DUE ?v6_KIDS_DUE ?u7_KIDS_DUE ?v7_KIDS_DUE ?u8_KIDS_DUE ?v8_KIDS_DUE ?u9_KIDS_DUE ?v9_KIDS_DUE ?u10_KIDS_DUE ?v10_KIDS_DUE ?u11_KIDS_DUE ?v11_KIDS_DUE ?u12_KIDS_DUE ?v12_KIDS_DUE ?u13_KIDS_DUE ?v13_KIDS_DUE ?u14_KIDS_DUE ?v14_KIDS_DUE ?u15_KIDS_DUE ?v15_KIDS_DUE ?u16_KIDS_DUE ?v16_KIDS_DUE ?u17_KIDS_DUE ?v17_KIDS_DUE ?g_BINDER_OVER ?lk_BINDER_OVER ?sy_BINDER_OVER ?vs_BINDER_OVER
      (case a0 => apply L3.dfi; iterate 4 k_is)
      (case a1 => apply L3.dfi; iterate 4 k_is)
      (case a2 => apply L3.dfi; iterate 4 k_is)
      (case a3 => apply L3.dfi; iterate 4 k_is)
      (case a4 => apply L3.dfi; iterate 4 k_is)
      (case a5 => apply L3.dfi; iterate 4 k_is)
      (case a6 => apply L3.dfi; iterate 4 k_is)
      (case a7 => apply L3.dfi; iterate 4 k_is)
      (case a8 => apply L3.dfi; iterate 4 k_is)
      (case a9 => apply L3.dfi; iterate 4 k_is)
      (case a10 => apply L3.dfi; iterate 4 k_is)
      (case a11 => apply L3.dfi; iterate 4 k_is)
      (case a12 => apply L3.dfi; iterate 4 k_is)
      (case a13 => apply L3.dfi; iterate 4 k_is)
      (case a14 => apply L3.dfi; iterate 4 k_is)
      (case a15 => apply L3.dfi; iterate 4 k_is)
      (case a16 => apply L3.dfi; iterate 4 k_is)
      (case z_bool => k_is)
      (case z_int => k_is)
      (case z_isinstance => k_is)
      (case z_len => k_is)
      (case z_list => k_is)
      (case z_range => k_is)
      (case z_set => k_is)
      (case z_sorted => k_is)
      (case z_tuple => k_is)
      (case z_zip => k_is)
      (case g_KIDS_DUE => k_is)
      (case lk_KIDS_DUE => k_is)
      (case sy_KIDS_DUE => decide +kernel)
      (case ks_KIDS_DUE => kernel_rfl)
      (case rf_KIDS_DUE => (dsimp only [HD.e]; rfl))
      (case u0_KIDS_DUE => k_is)
      (case v0_KIDS_DUE => decide +kernel)
      (case u1_KIDS_DUE => k_is)
      (case v1_KIDS_DUE => decide +kernel)
      (case u2_KIDS_DUE => k_is)
      (case v2_KIDS_DUE => decide +kernel)
      (case u3_KIDS_DUE => k_is)
      (case v3_KIDS_DUE => decide +kernel)
      (case u4_KIDS_DUE => k_is)
      (case v4_KIDS_DUE => decide +kernel)
      (case u5_KIDS_DUE => k_is)
      (case v5_KIDS_DUE => decide +kernel)
      (case u6_KIDS_DUE => k_is)
      (case v6_KIDS_DUE => decide +kernel)
      (case u7_KIDS_DUE => k_is)
      (case v7_KIDS_DUE => decide +kernel)
      (case u8_KIDS_DUE => k_is)
      (case v8_KIDS_DUE => decide +kernel)
      (case u9_KIDS_DUE => k_is)
      (case v9_KIDS_DUE => decide +kernel)
      (case u10_KIDS_DUE => k_is)
      (case v10_KIDS_DUE => decide +kernel)
      (case u11_KIDS_DUE => k_is)
      (case v11_KIDS_DUE => decide +kernel)
      (case u12_KIDS_DUE => k_is)
      (case v12_KIDS_DUE => decide +kernel)
      (case u13_KIDS_DUE => k_is)
      (case v13_KIDS_DUE => decide +kernel)
      (case u14_KIDS_DUE => k_is)
      (case v14_KIDS_DUE => decide +kernel)
      (case u15_KIDS_DUE => k_is)
      (case v15_KIDS_DUE => decide +kernel)
      (case u16_KIDS_DUE => k_is)
      (case v16_KIDS_DUE => decide +kernel)
      (case u17_KIDS_DUE => k_is)
      (case v17_KIDS_DUE => decide +kernel)
      (case g_BINDER_OVER => k_is)
      (case lk_BINDER_OVER => k_is)
      (case sy_BINDER_OVER => decide +kernel)
      (case vs_BINDER_OVER => kernel_rfl)
    obtain ⟨t, T⟩ := T
    exact K12.fin T hmg
