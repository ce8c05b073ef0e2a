import PyProof.Rows.All
import Wide.All
import OpenK.AllK
import Wide.FinOn
import Lean
import PyProof.EqAt
import PyProof.EqKinds
import PyProof.TupleCall
import PyProof.ZipIter
import PyProof.Draws
import PyProof.TupleIter
import PySem.Value
import PyProof.NeKinds
import PyProof.ExcClass2
import PyProof.StationsW
import OpenK.KOwn
import KE.KIsAll
import PyProof.RulesAs
import PyProof.NsDelKeeps
import PyProof.PassesOwn
import PyProof.ExcArgsOwn
import PyProof.IsiH_list
import PyProof.EnumMake
import PyProof.EnumFor
import PyProof.WalksEnum
import PyProof.Rows.EnumRows
import PyProof.SumWalk
import PyProof.StrCalls
import PyProof.Rows.StrJoin2
import PyProof.WalkInts
import KE.KDictOf
import KE.KEqDict
import PyProof.EqLayable
import PyProof.P3Eq
import PyProof.MeetsIn
import PyProof.StrCalls6
import PyProof.StrLaws
import PyProof.StrLawsIn
import PyProof.StrLawsChain
import PyProof.MeetsStr2
import PyProof.StrOps2
import PyProof.CallStr
import KE.KIntText
import KE.KRevIter
import PyProof.Rows.StrInSeq3
import PyProof.Rows.SeqMore2
import KE.KNest
import KE.KNestM
import PySem.Challenge.RW_keeper_k62_sums_and_products
set_option Elab.async false
set_option linter.all false
set_option maxRecDepth 100000
set_option bootstrap.genMatcherCode false
set_option genSizeOf false
set_option genSizeOfSpec false
set_option maxHeartbeats 8000000
open PySem renaming wpAny_bind->ao,wpAny_pure->aU,wpAny_field->dC,wpAny_call_entry->jO,wpAny_holding->iJ,wpAny_Call_Name_kw->pM,wpAny_mono->f_,wpAny_truthy_bool->uH
open PySem.Heap renaming get?_push_of_some->bC,lt_size->bA,get?_push_size->eI,get?_update_other->jJ,get?_update_self->Av
open Bool renaming and_eq_true->bD,false_ne_true->eC
open List renaming mem_cons_of_mem->cF,mem_cons_self->cj,getElem?_eq_getElem->dR,size_toArray->cE,length_map->cy,length_cons->dY,map_cons->dQ,append_nil->gc,length_append->iQ,mem_append_right->lZ,not_mem_nil->jr,mem_cons->gF,lookup_cons->jS,getElem?_map->ny,mem_of_getElem?->vI,getElem?_append_left->DM,drop_eq_getElem_cons->El,mem_append_left->A1,take_of_length_le->C2,length_drop->vb
open Nat renaming le_refl->bf,le_trans->cq,lt_of_lt_of_le->gb,ne_of_lt->cW,zero_le->dA
noncomputable section
section
namespace L2
open PySem PySem.Spec PyProof.Rows
theorem gZ{n:Nat}(h:Nat.ble n 16777216=true):n<=sizeLine:=cq (Nat.le_of_ble_eq_true h) (by decide)
def HB(base:Heap)(A:Around):Prop:=A.handled=none\/∃a oe vs,A.handled=some (.ref a)/\base.get? a=some oe/\oe.data= .fields vs/\vs[2]?=some .none
def HBp(base:Heap)(pn:List (Addr×Obj))(A:Around):Prop:=A.handled=none\/∃a oe vs,A.handled=some (.ref a)/\(base.get? a=some oe\/(a,oe)∈pn)/\oe.data= .fields vs/\vs[2]?=some .none
theorem HB.toP{base:Heap}{pn:List (Addr×Obj)}{A:Around}(h:HB base A):HBp base pn A:=by
 rcases h with h|⟨a,oe,vs,e1,e2,e3⟩;·exact .inl h
 ·exact .inr ⟨a,oe,vs,e1, .inl e2,e3⟩
theorem CT:entryFor table "proto.unchain"=some Builtin.«proto.unchain»:=entryFor_of_tree (by kernel_rfl)
section
variable{prog:Program}{w:World}{A:Around}{E:Value->Shared->Prop}{s:Shared}{base:Heap}
theorem HB.mono{h h':Heap}(hb:HB h A)(b:∀a o,A.handled=some (.ref a)->h.get? a=some o->h'.get? a=some o):HB h' A:=by
 rcases hb with hb|⟨a,oe,vs,e1,e2,e3⟩;·exact .inl hb
 ·exact .inr ⟨a,oe,vs,e1,b a oe e1 e2,e3⟩
theorem BH{n a:Addr}{oe:Obj}{vs:Array Value}{Q:Value->Shared->Prop}(b:s.heap.get? a=some oe)(hd:oe.data= .fields vs)(h2:vs[2]?=some .none)(h:Q .none s):wpAny (model prog w) A (runValue (.builtin "proto.unchain" ⟨[.ref n, .ref a, .ref a, .bool false],[]⟩)) Q E s:=by refine wpAny_runValue (codeAny_builtin CT ?_);show wpAny _ _ (field (.ref a) 2>>=_) _ _ s;refine ao (dC b hd h2 ?_);rw[if_pos (show(Value.none==Value.none)=true by rfl)];exact aU h
theorem eA{f:Type}{Q:f->Shared->Prop}(hb:HB s.heap A)(d:∀h' e,(∀b o,s.heap.get? b=some o->h'.get? b=some o)->(∃o,h'.get? e=some o/\o.cls= .type "StopIteration")->E (.ref e) {s with heap:=h'}):wpAny (model prog w) A (newExc (.type "StopIteration") []>>=λe=>(raiseNew e:Sem f)) Q E s:=by
 refine ao ?_;simp only[newExc,newTuple];refine ao (wpAny_newObj_type ?_ (by size_fits));refine ao (m:=firstArgMember _ _) (wpAny_of_eq (a:=Value.none) (by first|rfl|(simp only[firstArgMember];rfl)) ?_);refine wpAny_newObj_type ?_ (by size_fits);simp only[raiseNew];refine ao (wpAny_handled ?_);rcases hb with hb|⟨a,oe,vs,hb,e1,e2,e3⟩;·rw[hb];refine ao (aU (wpAny_throw (d _ _ (λb o e=>bC _ (bC _ e)) ⟨_,eI _ rfl,rfl⟩)))
 ·rw[hb];have c:=e1;have lt:=bA c;have ne:a≠(s.heap.push {cls:= .type "tuple",data:= .seq #[]}).objs.size:=by rw[Heap.size_push];exact cW (Nat.lt_succ_of_lt lt)
  dsimp only;rw[if_pos (by simpa using ne)];refine ao (iJ (BH (bC _ (bC _ c)) e2 e3 ?_));refine ao ?_;show wpAny (model prog w) A (setField (.ref _) 2 (.ref a)) _ _ _;refine wpAny_setField (eI _ rfl) rfl (by simp;lia) (wpAny_throw (d _ _ (λb o e=>?_) ⟨_,Av _ (eI _ rfl) (Obj.isFreed_of_fields (Obj.data_mapFields rfl _)),Obj.cls_mapFields _ _⟩));rw[jJ _ _ ?_];·exact bC _ (bC _ e)
  ·have :=bA e;intro z;rw[<-z,Heap.size_push]at this;exact Nat.not_succ_lt_self this
theorem jw{Q:Bool->Shared->Prop}{h':Heap}{e:Addr}(a:∃o,h'.get? e=some o/\o.cls= .type "StopIteration")(h:Q true {s with heap:=h'}):wpAny (model prog w) A (isInstance (.ref e) (.type "StopIteration")) Q E {s with heap:=h'}:=by obtain⟨o,c,hc⟩:=a;exact wpAny_isInstance (T:="StopIteration") (b:=true) ⟨o,c,hc⟩ isSubtype_stop h
theorem HB.upd{it:Addr}{f:Obj->Obj}(hb:HB s.heap A)(b:∀a,A.handled=some (.ref a)->a≠it):HB (s.heap.update it f) A:=hb.mono λa o e1 e2=>(jJ _ _ (Ne.symm (b a e1))).trans e2
theorem mF{it:Addr}{f:Obj->Obj}{h':Heap}(k:∀b o,(s.heap.update it f).get? b=some o->h'.get? b=some o):Heap.ExtBut it s.heap h':=λb o hb e=>k b o ((jJ _ _ (Ne.symm hb)).trans e)
theorem jW{it l:Addr}{i:Nat}{items:Array Value}{Q:Option Value->Shared->Prop}(hb:HB s.heap A)(j:∀a,A.handled=some (.ref a)->a≠it)(b:s.heap.IsListIter it l i)(hl:s.heap.IsList l items)(h:items[i]?=none)(d:∀h',Heap.ExtBut it s.heap h'->Q none {s with heap:=h'}):wpAny (model prog w) A (pyNext (.ref it)) Q E s:=by obtain⟨o,c,hc,hd⟩:=id b;obtain⟨n,g,_,m,Oh⟩:=hl;unfold pyNext;refine ao (wpAny_attempt (wpAny_callSpecial?_slot (name:=Str.ofString "__next__") b.typeIs slot_listiter_next (jO slot_listiter_next b.typeIs entry_listiter_next ?_ (args_listiter_next _))));show wpAny (model prog w) _ (field (.ref it) 0>>=_) _ _ s;refine ao (dC c hd (x:= .ref l) rfl ?_);show wpAny (model prog w) _ (if(Value.ref l==Value.none)=true then _ else _) _ _ s;rw[if_neg (show¬(Value.ref l==Value.none)=true from eC)];show wpAny (model prog w) _ (field (.ref it) 1>>=_) _ _ s;refine ao (dC c hd (x:= .int i 0) rfl ?_);show wpAny (model prog w) _ (seqItems? (.ref l)>>=_) _ _ s;refine ao (wpAny_seqItems g Oh ?_);simp only[Int.toNat_natCast,h];refine ao (wpAny_rule (ao (wpAny_setField c hd (by simp) ?_)));exact eA (A:=A.in1) (hb.upd j) λh' e k f=>ao (jw f (aU (d h' (mF k))))
theorem next_tuple_end{it l:Addr}{i:Nat}{items:Array Value}{Q:Option Value->Shared->Prop}(hb:HB s.heap A)(j:∀a,A.handled=some (.ref a)->a≠it)(b:s.heap.IsTupleIter it l i)(hl:s.heap.IsTuple l items)(h:items[i]?=none)(d:∀h',Heap.ExtBut it s.heap h'->Q none {s with heap:=h'}):wpAny (model prog w) A (pyNext (.ref it)) Q E s:=by obtain⟨o,c,hc,hd⟩:=id b;obtain⟨n,g,_,m,Oh⟩:=hl;unfold pyNext;refine ao (wpAny_attempt (wpAny_callSpecial?_slot (name:=Str.ofString "__next__") b.typeIs F.slot_tuple_iterator_next (jO F.slot_tuple_iterator_next b.typeIs F.entry_tuple_iterator_next ?_ (F.args_tuple_iterator_next_1 _))));show wpAny (model prog w) _ (field (.ref it) 0>>=_) _ _ s;refine ao (dC c hd (x:= .ref l) rfl ?_);show wpAny (model prog w) _ (if(Value.ref l==Value.none)=true then _ else _) _ _ s;rw[if_neg (show¬(Value.ref l==Value.none)=true from eC)];show wpAny (model prog w) _ (field (.ref it) 1>>=_) _ _ s;refine ao (dC c hd (x:= .int i 0) rfl ?_);show wpAny (model prog w) _ (seqItems? (.ref l)>>=_) _ _ s;refine ao (wpAny_seqItems g Oh ?_);simp only[Int.toNat_natCast,h];refine ao (wpAny_rule (ao (wpAny_setField c hd (by simp) ?_)));exact eA (A:=A.in1) (hb.upd j) λh' e k f=>ao (jw f (aU (d h' (mF k))))
theorem uh{it:Addr}{x left step:Int}{Q:Option Value->Shared->Prop}(hb:HB s.heap A)(a:IsRangeIter s.heap it x left step)(hleft:left<=0)(f:∀h',Heap.ExtBut it s.heap h'->Q none {s with heap:=h'}):wpAny (model prog w) A (pyNext (.ref it)) Q E s:=by have c:s.TypeIs (.ref it) "range_iterator":=⟨_,a,rfl⟩;unfold pyNext;refine ao (wpAny_attempt (wpAny_callSpecial?_slot (name:=Str.ofString "__next__") c F.slot_range_iterator_next (jO F.slot_range_iterator_next c F.entry_range_iterator_next ?_ (F.args_range_iterator_next_1 _))));show wpAny (model prog w) _ (field (.ref it) 0>>=_) _ _ s;refine ao (dC a rfl (x:=rawInt x) rfl ?_);show wpAny (model prog w) _ (field (.ref it) 1>>=_) _ _ s;refine ao (dC a rfl (x:=rawInt left) rfl ?_);show wpAny (model prog w) _ (field (.ref it) 2>>=_) _ _ s;refine ao (dC a rfl (x:=rawInt step) rfl ?_);show wpAny (model prog w) _ (if left<=0 then _ else _) _ _ s;rw[if_pos hleft];refine ao (wpAny_rule ?_);refine ao ?_;exact eA (A:=A.in1) hb λh' e k g=>ao (jw g (aU (f h' λb o _ d=>k b o d)))
theorem uv{it:Addr}{x:Str}{t:Tok}{i:Nat}{Q:Option Value->Shared->Prop}(hb:HB s.heap A)(h:∀a,A.handled=some (.ref a)->a≠it)(b:s.heap.IsStrIter it "str_ascii_iterator" x t i)(g:x.cps[i]?=none)(d:∀h',Heap.ExtBut it s.heap h'->Q none {s with heap:=h'}):wpAny (model prog w) A (pyNext (.ref it)) Q E s:=by obtain⟨o,c,hc,hd⟩:=id b;unfold pyNext;refine ao (wpAny_attempt (wpAny_callSpecial?_slot (name:=Str.ofString "__next__") b.typeIs F.slot_str_ascii_iterator_next (jO F.slot_str_ascii_iterator_next b.typeIs F.entry_str_ascii_iterator_next ?_ (F.args_str_ascii_iterator_next_1 _))));show wpAny (model prog w) _ (field (.ref it) 0>>=_) _ _ s;refine ao (dC c hd (x:= .str x t) rfl ?_);show wpAny (model prog w) _ (field (.ref it) 1>>=_) _ _ s;refine ao (dC c hd (x:= .int i 0) rfl ?_);simp only[Int.toNat_natCast,g];refine ao (wpAny_rule (ao (wpAny_setField c hd (by simp) (ao (wpAny_letGo ?_)))));exact eA (A:=A.in1) (hb.upd h) λh' e k f=>ao (jw f (aU (d h' (mF k))))
theorem vN{it:Addr}{x:Str}{t:Tok}{i:Nat}{Q:Option Value->Shared->Prop}(hb:HB s.heap A)(h:∀a,A.handled=some (.ref a)->a≠it)(b:s.heap.IsStrIter it "str_iterator" x t i)(g:x.cps[i]?=none)(d:∀h',Heap.ExtBut it s.heap h'->Q none {s with heap:=h'}):wpAny (model prog w) A (pyNext (.ref it)) Q E s:=by obtain⟨o,c,hc,hd⟩:=id b;unfold pyNext;refine ao (wpAny_attempt (wpAny_callSpecial?_slot (name:=Str.ofString "__next__") b.typeIs F.slot_str_iterator_next (jO F.slot_str_iterator_next b.typeIs F.entry_str_iterator_next ?_ (F.args_str_iterator_next_1 _))));show wpAny (model prog w) _ (field (.ref it) 0>>=_) _ _ s;refine ao (dC c hd (x:= .str x t) rfl ?_);show wpAny (model prog w) _ (field (.ref it) 1>>=_) _ _ s;refine ao (dC c hd (x:= .int i 0) rfl ?_);simp only[Int.toNat_natCast,g];refine ao (wpAny_rule (ao (wpAny_setField c hd (by simp) (ao (wpAny_letGo ?_)))));exact eA (A:=A.in1) (hb.upd h) λh' e k f=>ao (jw f (aU (d h' (mF k))))
theorem O_{t:Addr}{items:Array Value}{Q:List Value->Shared->Prop}(hb:HB s.heap A)(ht:s.heap.IsTuple t items)(i:∀h',Heap.ExtBut s.heap.objs.size s.heap h'->Q items.toList {s with heap:=h'}):wpAny (model prog w) A (unpackItems (.ref t) items.size none) Q E s:=by
 have f:t≠s.heap.objs.size:=by obtain⟨o,m,_⟩:=ht;exact cW (bA m)
 have g:∀a,A.handled=some (.ref a)->a≠s.heap.objs.size:=λa c=>by
  rcases hb with hb|⟨q,oe,vs,e1,e2,_⟩;·rw[hb]at c;cases c
  ·rw[e1]at c;cases c;exact cW (bA e2)
 unfold unpackItems;refine ao ?_;unfold notIterableAtAll;refine ao (wpAny_specialOf ht.typeIs F.slot_tuple_iter.lookup (aU ?_));simp only[Bool.false_eq_true,if_false];refine ao (iJ (wpAny_pyIter_tuple ht ?_));refine ao (iJ (wpAny_draw_tuple f items.size 0 _ _ ⟨_,eI _ rfl,rfl,rfl⟩ (ht.push _) (by lia) λh₁ l d=>?_));rw[show List.take items.size (List.drop 0 items.toList)=items.toList by rw[List.drop_zero];exact C2 (by simp),if_neg (by simp)];have n:h₁.IsTuple t items:=(ht.push _).extBut d.extBut f;have j:HB h₁ A:=hb.mono λa o c h=>d.extBut a o (g a c) (bC _ h);refine ao (iJ (next_tuple_end (s:={s with heap:=h₁}) j g l n (by simp) λp k=>?_));simp only[Option.isSome_none,Bool.false_eq_true,if_false];exact aU (i p λb o hb e=>k b o hb (d.extBut b o hb (bC _ e)))
theorem Qa{env:Env}{elts:List Expr}{c}{b:Pos}{t:Addr}{items:Array Value}{Q:Unit->Shared->Prop}(hb:HB s.heap A)(ht:s.heap.IsTuple t items)(hn:(assignEach elts env).length=items.size)(a:(assignEach elts env).findIdx? (·.1)=none)(h:∀h',Heap.ExtBut s.heap.objs.size s.heap h'->wpAny (model prog w) A (assignInOrder ((assignEach elts env).map (·.2)) items.toList) Q E {s with heap:=h'}):wpAny (model prog w) A (assign (.Tuple elts c b) env (.ref t)) Q E s:=by rw[arm_assign_Tuple];refine ao (wpAny_standAt ?_);unfold unpack;rw[hn,a];exact ao (iJ (O_ hb ht h))
end
theorem D6{prog:Program}{w:World}{A:Around}{s:Shared}{Q:Option Value->Shared->Prop}{E:Value->Shared->Prop}{I:Addr}{a c:Int}{n i:Nat}(hi:i<n)(st:IsRangeIter s.heap I (a+(i:Nat)*c) ((n:Int)-(i:Nat)) c)(d:∀v h' tk,(∃t,v= .int (a+i*c) t)->IsRangeIter h' I (a+((i+1:Nat):Int)*c) ((n:Int)-((i+1:Nat):Int)) c->(∀b o,b∉[I]->s.heap.get? b=some o->h'.get? b=some o)->Q (some v) {s with heap:=h',toks:=tk}):wpAny (model prog w) A (pyNext (.ref I)) Q E s:=by refine wpAny_pyNext_range_item st (by lia) λh' f g=>d _ h' _ ⟨_,rfl⟩ ?_ λb o hb e=>g.extBut b o (λh=>hb (by simp[h])) e;rw[show a+((i+1:Nat):Int)*c=a+(i:Int)*c+c by push_cast;rw[Int.add_mul,Int.one_mul,Int.add_assoc],show(n:Int)-((i+1:Nat):Int)=(n:Int)-(i:Int)-1 by push_cast;lia];exact f
noncomputable def k_(A:Around):List Addr:=match A.handled with|some (.ref a)=>[a]|_=>[]
theorem mi{A:Around}{d:Addr}(h:d∈k_ A):A.handled=some (.ref d):=by
 unfold k_ at h;split at h;·rename_i a e;rw[List.mem_singleton.mp h];exact e
 ·cases h
theorem HB.frame{A:Around}{h h':Heap}(hb:HB h A)(k:∀b∈k_ A,∀o,h.get? b=some o->h'.get? b=some o):HB h' A:=hb.mono λa o c d=>k a (by unfold k_;rw[c];simp) o d
theorem uL{prog:Program}{w:World}{A:Around}(I c:Addr)(p:c≠I)(items:Array Value)(j:∀a,A.handled=some (.ref a)->a≠I):Walks prog w A I (I::c::k_ A) [I] items.size (λi v=>items[i]?=some v) (λi h=>h.IsListIter I c i/\h.IsList c items/\HB h A)where
 sub:=λb hb=>by simp at hb;simp[hb]
 frame:=λ_ _ _ st f=>⟨st.1.at λo e=>f I (by simp) o e,st.2.1.at λo e=>f c (by simp) o e,st.2.2.frame λb hb=>f b (by simp[hb])⟩;item:=λi s Q E hi st d=>by refine wpAny_pyNext_list_item st.1 st.2.1 (x:=items[i]) (by simp[hi]) λh' n g=>?_;exact d _ h' s.toks (by simp[hi]) ⟨n,st.2.1.extBut g.extBut p,st.2.2.mono λa o k l=>g.extBut a o (j a k) l⟩ λb o hb e=>g.extBut b o (λh=>hb (by simp[h])) e
 done:=λs Q E st d=>jW st.2.2 j st.1 st.2.1 (by simp) λh' m=>d h' s.toks λb o hb e=>m b o (λh=>hb (by simp[h])) e;self:=λ_ _ _ _ st d=>wpAny_pyIter_listiter st.1 d
noncomputable abbrev Key:=Sum Int Str
noncomputable def w8:Key->Value->Bool| .inl k,v=>Value.isInt k v| .inr x,v=>Value.isStrOf x v
noncomputable def abM(w:World):Key->Int| .inl k=>hashInt k| .inr x=>hashStr w x
theorem ck:∀{k:Key}{v:Value},w8 k v=true->(∃i t,k=Sum.inl i/\v=Value.int i t)\/(∃x t,k=Sum.inr x/\v=Value.str x t)| .inl i,v,h=>by obtain⟨t,e⟩:=Value.isInt_shape (k:=i) (v:=v) h;exact .inl ⟨i,t,rfl,e⟩| .inr x,v,h=>by obtain⟨t,e⟩:=Value.isStrOf_shape (x:=x) (v:=v) h;exact .inr ⟨x,t,rfl,e⟩
theorem JQ(i:Int)(t:Tok):w8 (.inl i) (.int i t)=true:=by simp[w8,Value.isInt]
theorem Jn(x:Str)(t:Tok):w8 (.inr x) (.str x t)=true:=by simp[w8,Value.isStrOf]
theorem V_(a b:Int):decide ((Sum.inl a:Key)=Sum.inl b)=(a==b):=by
 by_cases e:a=b;·subst e;simp
 ·have h:¬(Sum.inl a:Key)=Sum.inl b:=λq=>e (Sum.inl.inj q);rw[decide_eq_false h];exact(beq_eq_false_iff_ne.mpr e).symm
theorem UD(a b:Str):decide ((Sum.inr a:Key)=Sum.inr b)=decide (a=b):=by
 by_cases e:a=b;·subst e;simp
 ·have h:¬(Sum.inr a:Key)=Sum.inr b:=λq=>e (Sum.inr.inj q);rw[decide_eq_false h,decide_eq_false e]
theorem U2(a:Int)(b:Str):decide ((Sum.inl a:Key)=Sum.inr b)=false:=decide_eq_false (λq=>nomatch q)
theorem WH(a:Str)(b:Int):decide ((Sum.inr a:Key)=Sum.inl b)=false:=decide_eq_false (λq=>nomatch q)
noncomputable def c9(prog:Program)(w:World):PySem.KeyKind prog w Key where
 is:=w8;hash:=abM w;inj:=λv a b ha hb=>by
  rcases ck ha with⟨i,t,rfl,rfl⟩|⟨x,t,rfl,rfl⟩
  ·rcases ck hb with⟨j,u,rfl,e⟩|⟨y,u,rfl,e⟩;·injection e with e1 _;rw[e1]
   ·exact nomatch e
  ·rcases ck hb with⟨j,u,rfl,e⟩|⟨y,u,rfl,e⟩;·exact nomatch e
   ·injection e with e1 _;rw[e1]
 byValue:=λk v h=>by rcases ck h with⟨i,t,rfl,rfl⟩|⟨x,t,rfl,rfl⟩<;>rfl
 pyHash:=λc h=>by
  rcases ck c with⟨i,t,rfl,rfl⟩|⟨x,t,rfl,rfl⟩;·exact wpAny_pyHash_int h
  ·exact wpAny_pyHash_str h
 eqBool:=λd c h=>by
  rcases ck d with⟨i,t,rfl,rfl⟩|⟨x,t,rfl,rfl⟩
  ·rcases ck c with⟨j,u,rfl,rfl⟩|⟨y,u,rfl,rfl⟩;·rw[V_]at h;exact wpAny_eqBool_int h
   ·rw[U2]at h;exact SeqAt.EqAt.int_str i t y u _ _ _ _ h
  ·rcases ck c with⟨j,u,rfl,rfl⟩|⟨y,u,rfl,rfl⟩;·rw[WH]at h;exact SeqAt.EqAt.str_int x t j u _ _ _ _ h
   ·rw[UD]at h;exact wpAny_eqBool_str h
 «strs»:=λk x t v h=>by
  rcases ck h with⟨i,u,rfl,e⟩|⟨y,u,rfl,e⟩;·exact nomatch e
  ·injection e with e1 _;subst e1;cases v<;>rfl
theorem De(prog:Program)(w:World)(i:Int)(t:Tok):(c9 prog w).is (.inl i) (.int i t)=true:=JQ i t
theorem Bx(prog:Program)(w:World)(x:Str)(t:Tok):(c9 prog w).is (.inr x) (.str x t)=true:=Jn x t
inductive V where|aO|bl(b:Bool)|int(i:Int)|str(x:Str)|Iv(b:Array UInt8)|S5(b:UInt64)|ref(a:Addr)|ty(n:String)deriving DecidableEq
noncomputable def RelV:V->Value->Prop| .aO,u=>u=Value.none| .bl b,u=>u=Value.bool b| .int i,u=>∃t,u=Value.int i t| .str x,u=>∃t,u=Value.str x t| .Iv b,u=>∃t,u=Value.bytes b t| .S5 b,u=>∃t,u=Value.float b t| .ref a,u=>u=Value.ref a| .ty n,u=>u=Value.type n
noncomputable abbrev Vals:List V->List Value->Prop:=Paired RelV
theorem Vals.length{xs:List V}{us:List Value}(r:Vals xs us):xs.length=us.length:=Paired.length r
theorem Vals.get:∀{xs:List V}{us:List Value}{i:Nat}{x:V},Vals xs us->xs[i]?=some x->∃u,us[i]?=some u/\RelV x u|_,_,_,_, .nil,e=>by simp at e|_,_,0,_, .cons r _,e=>by simp at e;subst e;exact⟨_,rfl,r⟩|_,_,i+1,x, .cons _ t,e=>by obtain⟨u,h1,h2⟩:=Vals.get (i:=i) (x:=x) t (by simpa using e);exact⟨u,by simpa using h1,h2⟩
theorem Vals.set{x:V}{u:Value}(r:RelV x u):∀{xs:List V}{us:List Value}(i:Nat),Vals xs us->Vals (xs.set i x) (us.set i u)|_,_,_, .nil=> .nil|_,_,0, .cons _ t=> .cons r t|_,_,i+1, .cons q t=> .cons q (Vals.set r i t)
theorem Vals.append:∀{xs ys:List V}{us ws:List Value},Vals xs us->Vals ys ws->Vals (xs++ys) (us++ws)|_,_,_,_, .nil,s=>s|_,_,_,_, .cons r t,s=> .cons r (Vals.append t s)
theorem Vals.take:∀{xs:List V}{us:List Value}(n:Nat),Vals xs us->Vals (xs.take n) (us.take n)|_,_,0,_=> .nil|_,_,_+1, .nil=> .nil|_,_,n+1, .cons r t=> .cons r (Vals.take n t)
theorem Vals.drop:∀{xs:List V}{us:List Value}(n:Nat),Vals xs us->Vals (xs.drop n) (us.drop n)|_,_,0,r=>r|_,_,_+1, .nil=> .nil|_,_,n+1, .cons _ t=>Vals.drop n t
noncomputable def jU:Option V->Option Value->Prop|some v,some u=>RelV v u|none,none=>True|_,_=>False
noncomputable def KV{a:Type}:List (a×V)->List (a×Value)->Prop:=Paired λ(p:a×V)(q:a×Value)=>p.1=q.1/\RelV p.2 q.2
noncomputable def kV:Key->V| .inl i=> .int i| .inr x=> .str x
inductive Ql where|tab(q:Str)(ln cl:Value)|code(q:Str)
inductive HO where/--a list -/|lst(xs:List V)/--a tuple (never changes) -/|tup(xs:List V)/--a dict whose keys are ints and texts; one whose keys are tuples of ints and texts (the empty one is both) -/|dK(aE:List (Key×V))|dT(aE:List (List Key×V))/--a set of ints: its members, its size -/|set(S:Int->Bool)(n:Nat)/--an instance of the class at C, its dict at dx, its attributes -/|ins(C dx:Addr)(fs:List (Str×V))/--the dict of the instance at x -/|own(x:Addr)/--the dict of an exception -/|xd(fs:List (Str×V))/--a bound method, f of x -/|met(f x:Addr)/--a range object lo, lo + 1, .. below hi -/|rng(lo hi:Int)/--a thing that is known to the object (the script; a dict while a loop walks it): read, never written while it is so -/|DE(o:Obj)(u:HO)/--a code object's table -/|vD(ps:Ql)/--any other thing, by what is true of its one object (a def of one's own: SetO a S n := HO.ext fun h => ..) -/|ext(φ:Heap->Prop)
noncomputable abbrev Hp:=Addr->Option HO
noncomputable def upd(H:Hp)(a:Addr)(o:HO):Hp:=λb=>if b=a then some o else H b
theorem aq{H:Hp}{a:Addr}{o:HO}:upd H a o a=some o:=by unfold upd;rw[if_pos rfl]
theorem aI{H:Hp}{a b:Addr}{o:HO}(h:b≠a):upd H a o b=H b:=by unfold upd;rw[if_neg h]
theorem HU{H:Hp}{a:Addr}{o u:HO}:upd (upd H a o) a u=upd H a u:=by funext b;unfold upd;split<;>rfl
theorem TL{H:Hp}{a b:Addr}{o u:HO}(h:H a=some o)(h':H b=some u)(d:o≠u):a≠b:=by intro e;subst e;rw[h]at h';exact d (Option.some.inj h')
theorem aD{H:Hp}{a b:Addr}{o:HO}(h:H a=some o)(h':H b=none):a≠b:=by intro e;subst e;rw[h]at h';cases h'
section
variable(P:Program)(w:World)
noncomputable def bZ(H:Hp)(h:Heap)(a:Addr):HO->Prop| .lst xs=>xs.length<=sizeLine/\∃(its:List Value)(n:Nat),Vals xs its/\h.get? a=some {cls:= .type "list",data:= .seq its.toArray n}| .tup xs=>xs.length<=sizeLine/\∃its:List Value,Vals xs its/\IsTup h a its.toArray| .dK aE=>aE.length<=sizeLine/\(a==sysModules)=false/\∃vs,KV aE vs/\h.DictOf (c9 P w) a vs| .dT aE=>aE.length<=sizeLine/\(a==sysModules)=false/\∃xs:List (List Key×Addr×Value),Paired (λ(p:List Key×V)(q:List Key×Addr×Value)=>p.1=q.1/\H q.2.1=some (.tup (p.1.map kV))/\RelV p.2 q.2.2) aE xs/\∃o es ep,h.get? a=some o/\o.ExactDict/\o.data= .dict es ep/\es.toList=xs.map (entryOfKey (tupleKind (c9 P w)))/\(xs.map (·.1)).Nodup| .set S n=>h.SetOf (intKind P w) a S n| .ins C dx fs=>H dx=some (.own a)/\fs.length<=1000/\dx≠a/\h.get? a=some (PySem.W.instObj C dx)/\∃mA,h.Ns1 dx mA/\(∀f,jU (fs.lookup f) (mA f))/\PySem.Within mA (fs.map (·.1))| .own _=>∃o,h.get? a=some o| .xd fs=>∃mA,h.Ns1 a mA/\∀f,jU (fs.lookup f) (mA f)| .rng lo hi=>∃t u v,h.get? a=some {cls:= .type "range",data:= .fields #[.int lo t, .int hi u, .int 1 v]}| .DE o u=>h.get? a=some o/\bZ H h a u| .vD (.tab q ln cl)=>h.get? a=some {cls:= .none,data:= .fields #[]}\/∃c,h.get? a=some {cls:= .none,data:= .fields #[ln,cl, .ref c]}/\H c=some (.vD (.code q))| .vD (.code q)=>h.CodeRec (.ref a) q| .met f x=>h.get? a=some (PySem.W.methodObj (.ref f) (.ref x))| .ext φ=>φ h/\(∃o,h.get? a=some o)/\∀h1 h2:Heap,φ h1->(∀o,h1.get? a=some o->h2.get? a=some o)->φ h2
def iK(H:Hp)(h:Heap):Prop:=∀a o,H a=some o->bZ P w H h a o
end
section
variable{P:Program}{w:World}{H H':Hp}{h h':Heap}{a:Addr}{o:HO}
theorem bZ.lt(x:bZ P w H h a o):a<h.objs.size:=by
 cases o with
  |lst xs=>obtain⟨_,_,_,_,e⟩:=x;exact bA e
  |tup xs=>obtain⟨_,_,_,p⟩:=x;exact p.lt
  |dK aE=>obtain⟨_,_,_,_,o,_,_,e,_⟩:=x;exact bA e
  |dT aE=>obtain⟨_,_,_,_,o,_,_,e,_⟩:=x;exact bA e
  |set S n=>obtain⟨o,_,_,_,e,_⟩:=x;exact bA e
  |ins C dx fs=>obtain⟨_,_,_,e,_⟩:=x;exact bA e
  |own y=>obtain⟨_,e⟩:=x;exact bA e
  |xd fs=>obtain⟨_,⟨_,_,_,e,_⟩,_⟩:=x;exact bA e
  |rng lo hi=>obtain⟨_,_,_,e⟩:=x;exact bA e
  |DE ob u=>obtain⟨e,_⟩:=x;exact bA e
  |vD ps=>cases ps with|tab q ln cl=>rcases x with e|⟨c,e,_⟩<;>exact bA e|code q=>obtain⟨c,o,vs,t,e1,e2,_⟩:=x;cases e1;exact bA e2
  |met f y=>exact bA (show h.get? a=some _ from x)
  |ext φ=>obtain⟨_,⟨_,e⟩,_⟩:=x;exact bA e
theorem Paired.VS{e g:Type}{F G:e->g->Prop}:∀{c:List e}{d:List g},Paired F c d->(∀a b,F a b->G a b)->Paired G c d|_,_, .nil,_=> .nil|_,_, .cons r t,f=> .cons (f _ _ r) (Paired.VS t f)
noncomputable def Fix:HO->Prop| .tup _=>True| .vD _=>True|_=>False
noncomputable abbrev aan:={u:HO//Fix u}
theorem bZ.vE(x:bZ P w H h a o)(k:∀b u,(b=a\/H b=some (.own a))->h.get? b=some u->h'.get? b=some u)(g:∀b,H b=some (.own a)->H' b=some (.own a))(ht:∀(b:Addr)(u:aan),H b=some u.1->H' b=some u.1):bZ P w H' h' a o:=by
 induction o with
  |lst xs=>obtain⟨z,its,n,r,e⟩:=x;exact⟨z,its,n,r,k _ _ (.inl rfl) e⟩
  |tup xs=>obtain⟨z,its,r,ob,e,c⟩:=x;exact⟨z,its,r,ob,k _ _ (.inl rfl) e,c⟩
  |dK aE=>obtain⟨z,y,vs,r,ob,es,ep,e,c⟩:=x;exact⟨z,y,vs,r,ob,es,ep,k _ _ (.inl rfl) e,c⟩
  |dT aE=>obtain⟨z,y,xs,r,ob,es,ep,e,c⟩:=x;exact⟨z,y,xs,Paired.VS r λp q z=>⟨z.1,ht _ ⟨.tup _,trivial⟩ z.2.1,z.2.2⟩,ob,es,ep,k _ _ (.inl rfl) e,c⟩
  |set S n=>obtain⟨ob,es,ep,t,e,c⟩:=x;exact⟨ob,es,ep,t,k _ _ (.inl rfl) e,c⟩
  |ins C dx fs=>obtain⟨d,z,ne,e,mA,⟨od,es,ep,e2,c⟩,r⟩:=x;exact⟨g _ d,z,ne,k _ _ (.inl rfl) e,mA,⟨od,es,ep,k _ _ (.inr d) e2,c⟩,r⟩
  |own y=>obtain⟨ob,e⟩:=x;exact⟨ob,k _ _ (.inl rfl) e⟩
  |xd fs=>obtain⟨mA,⟨od,es,ep,e,c⟩,r⟩:=x;exact⟨mA,⟨od,es,ep,k _ _ (.inl rfl) e,c⟩,r⟩
  |rng lo hi=>obtain⟨t,u,v,e⟩:=x;exact⟨t,u,v,k _ _ (.inl rfl) e⟩
  |DE ob u i=>obtain⟨e,q⟩:=x;exact⟨k _ _ (.inl rfl) e,i q⟩
  |vD ps=>
   cases ps with
    |tab q ln cl=>
     rcases x with e|⟨c,e,r⟩;·exact .inl (k a _ (.inl rfl) e)
     ·exact .inr ⟨c,k a _ (.inl rfl) e,ht c ⟨.vD (.code q),trivial⟩ r⟩
    |code q=>obtain⟨c,o,vs,t,e1,e2,e3⟩:=x;cases e1;exact⟨_,o,vs,t,rfl,k a _ (.inl rfl) e2,e3⟩
  |met f y=>have e:h.get? a=some (PySem.W.methodObj (.ref f) (.ref y)):=x;show h'.get? a=some (PySem.W.methodObj (.ref f) (.ref y));exact k a _ (.inl rfl) e
  |ext φ=>obtain⟨p,⟨o,e⟩,st⟩:=x;exact⟨st _ _ p λo q=>k _ _ (.inl rfl) q,⟨o,k _ _ (.inl rfl) e⟩,st⟩
theorem iK.lt(x:iK P w H h)(e:H a=some o):a<h.objs.size:=(x a o e).lt
theorem iK.fresh(x:iK P w H h)(e:h.objs.size<=a):H a=none:=by cases q:H a with|none=>rfl|some u=>exact absurd (gb (x.lt q) e) (Nat.lt_irrefl _)
theorem iK.kept(x:iK P w H h)(k:∀b u,h.get? b=some u->h'.get? b=some u):iK P w H h':=λa o e=>(x a o e).vE (λb u _ q=>k b u q) (λ_ q=>q) λ_ _ q=>q
theorem iK.laid(x:iK P w H h)(k:∀b u,h.get? b=some u->h'.get? b=some u)(d:h.objs.size<=a)(new:bZ P w (upd H a o) h' a o):iK P w (upd H a o) h':=λb u e=>by
 have hn:=x.fresh d;by_cases hb:b=a;·subst hb;rw[aq]at e;cases e;exact new
 ·rw[aI hb]at e;exact(x b u e).vE (λc v _ q=>k c v q) (λc q=>by rw[aI (aD q hn)];exact q) λc xs q=>by rw[aI (aD q hn)];exact q
end
def Rd(H:Hp)(a:Addr)(u:HO):Prop:=H a=some u\/∃o,H a=some (.DE o u)
theorem Rd.ok{P:Program}{w:World}{H:Hp}{h:Heap}{a:Addr}{u:HO}(r:Rd H a u)(x:iK P w H h):bZ P w H h a u:=by
 rcases r with r|⟨o,r⟩;·exact x a u r
 ·obtain⟨_,q⟩:=x a _ r;exact q
noncomputable def X4:Option HO->Prop|some (.lst _)=>True|some (.dK _)=>True|some (.dT _)=>True|some (.set _ _)=>True|some (.ins _ _ _)=>True|some (.ext _)=>True|_=>False
section
variable{P:Program}{w:World}{H:Hp}{h h':Heap}{x e:Addr}{o':HO}
theorem iK.write(ok:iK P w H h)(d:X4 (H x))(g:e=x\/H e=some (.own x))(k:∀b u,b≠e->h.get? b=some u->h'.get? b=some u)(l:∃u,h'.get? e=some u)(new:bZ P w (upd H x o') h' x o'):iK P w (upd H x o') h':=λb u q=>by
 have i:∀c y,H c=some (.own y)->c≠x:=λc y r z=>by subst z;rw[r]at d;exact d
 have n:∀(c:Addr)(u:aan),H c=some u.1->c≠x:=λc⟨u,f⟩r z=>by subst z;rw[show H c=some u from r]at d;cases u<;>first|exact d|exact f
 by_cases hb:b=x;·subst hb;rw[aq]at q;cases q;exact new
 ·rw[aI hb]at q;by_cases a:b=e
  ·have j:H b=some (.own x):=by
    rcases g with z|z;·exact absurd (a.trans z) hb
    ·rw[a];exact z
   rw[q]at j;cases j;obtain⟨v,m⟩:=l;exact⟨v,by rw[a];exact m⟩
  ·refine(ok b u q).vE (λc v hc r=>k c v ?_ r) (λc r=>by rw[aI (i c b r)];exact r) λc xs r=>by rw[aI (n c xs r)];exact r
   rcases hc with rfl|hc;·exact a
   ·rintro rfl;rcases g with z|z;·exact i c b hc z
    ·rw[hc]at z;cases z;exact hb rfl
end
structure Un(fs ex:List Addr)(H H':Hp)(h h':Heap):Prop where
 keep:∀b o,h.get? b=some o->H b=none->b∉fs->b∉ex->h'.get? b=some o
 slot:∀b o,h.get? b=some o->H b=none->b∈fs->b∉ex->∃sl,h'.get? b=some {o with slots:=sl}
 free:∀b o,h.get? b=some o->H b=none->b∉ex->H' b=none
 there:∀b o,h.get? b=some o->b∉ex->∃o',h'.get? b=some o'
 v9:∀b xs,H b=some (.tup xs)->H' b=some (.tup xs)
 uN:∀b o u,H b=some (.DE o u)->H' b=some (.DE o u)
 vq:∀b ps,H b=some (.vD ps)->H' b=some (.vD ps)
section
variable{fs fs' ex ex':List Addr}{H H1 H2:Hp}{h h1 h2 h':Heap}{a x e:Addr}{o:HO}
theorem Un.any(u:Un fs ex H H1 h h1){b:Addr}{ob:Obj}(q:h.get? b=some ob)(n:H b=none)(c:b∉ex):∃sl,h1.get? b=some {ob with slots:=sl}:=by
 by_cases hb:b∈fs;·exact u.slot b ob q n hb c
 ·exact⟨ob.slots,u.keep b ob q n hb c⟩
theorem Un.kept(k:∀b u,h.get? b=some u->h'.get? b=some u):Un fs ex H H h h':=⟨λb ob q _ _ _=>k b ob q,λb ob q _ _ _=>⟨ob.slots,k b ob q⟩,λ_ _ _ n _=>n,λb ob q _=>⟨ob,k b ob q⟩,λ_ _ q=>q,λ_ _ _ q=>q,λ_ ps q=>(by rw[q])⟩
theorem Un.refl:Un fs ex H H h h:=Un.kept λ_ _ q=>q
theorem Un.laid(k:∀b u,h.get? b=some u->h'.get? b=some u)(c:h.objs.size<=a)(hn:H a=none):Un fs ex H (upd H a o) h h' where
 keep:=λb u q _ _ _=>k b u q;slot:=λb u q _ _ _=>⟨u.slots,k b u q⟩;free:=λb u q n _=>by rw[aI (cW (gb (bA q) c))];exact n
 there:=λb u q _=>⟨u,k b u q⟩;v9:=λb xs q=>by rw[aI (aD q hn)];exact q
 uN:=λb u xs q=>by rw[aI (aD q hn)];exact q
 vq:=λb ps q=>(by rw[aI (aD q hn),q])
theorem Un.write(c:X4 (H x))(g:e=x\/H e=some (.own x))(k:∀b u,b≠e->h.get? b=some u->h'.get? b=some u)(i:∃u,h'.get? e=some u):Un fs ex H (upd H x o) h h':=by
 have f:∀b,H b=none->b≠x:=λb n z=>by subst z;rw[n]at c;exact c
 have hb:∀b,H b=none->b≠e:=λb n z=>by
  subst z;rcases g with r|r;·exact f b n r
  ·rw[n]at r;cases r
 have hm:∀b u,H b=some u->¬X4 (some u)->b≠x:=λb u q j z=>by subst z;rw[q]at c;exact j c
 refine⟨λb u q n _ _=>k b u (hb b n) q,λb u q n _ _=>⟨u.slots,k b u (hb b n) q⟩,λb u q n _=>by rw[aI (f b n)];exact n,λb u q _=>?_,λb xs q=>by rw[aI (hm b _ q λz=>z)];exact q,λb u xs q=>by rw[aI (hm b _ q λz=>z)];exact q,λb ps q=>(by rw[aI (hm b _ q λz=>z),q])⟩;by_cases d:b=e;·subst d;exact i
 ·exact⟨u,k b u d q⟩
end
noncomputable def trk(h:Heap)(H:Hp):List Addr:=(List.range h.objs.size).filter λa=>(H a).isSome
noncomputable def yH(h:Heap)(H:Hp):Heap:=PySem.W.hideAll h (trk h H)
theorem wJ(h:Heap)(H:Hp):(yH h H).objs.size=h.objs.size:=PySem.W.hideAll_size _ _
theorem mQ{h:Heap}{H:Hp}{b:Addr}{o:Obj}(e:h.get? b=some o)(n:H b=none):(yH h H).get? b=some o:=PySem.W.hideAll_get _ e λhm=>by have q:(H b).isSome=true:=(List.mem_filter.mp hm).2;rw[n]at q;simp at q
theorem GV{h:Heap}{H:Hp}{b:Addr}{o:Obj}(e:(yH h H).get? b=some o):h.get? b=some o/\H b=none:=by have e':h.get? b=some o:=PySem.W.of_hideAll (trk h H) e;refine⟨e',?_⟩;cases q:H b with|none=>rfl|some x=>have hm:b∈trk h H:=List.mem_filter.mpr ⟨List.mem_range.mpr (bA e'),by simp[q]⟩;have z:(yH h H).get? b=none:=PySem.W.hideAll_none (trk h H) hm;rw[z]at e;cases e
noncomputable def P9(g h:Heap)(L:Addr):List (Addr×Obj):=(List.range h.objs.size).filterMap λa=>if a=L\/(g.get? a).isSome=true then none else(h.get? a).map λo=>(a,o)
noncomputable def rest(g h:Heap)(L d:Addr):List (Addr×Obj):=(P9 g h L).filter λp=>decide (p.1≠d)
def BmK(mg:Str->Option Value)(h:Heap):Prop:=∃bm ob,mg "__builtins__"=some (.ref bm)/\bm≠builtinsNs/\h.get? bm=some ob/\ob.cls= .type "module"/\ob.dict=some builtinsNs/\ob.data= .plain
theorem BmK.keeps{mg:Str->Option Value}{h h':Heap}(x:BmK mg h)(k:∀b o,h.get? b=some o->h'.get? b=some o):BmK mg h':=let⟨bm,ob,a,b,c,d⟩:=x;⟨bm,ob,a,b,k _ _ c,d⟩
structure Mod(K:PySem.W.Frag)(mg:Str->Option Value)(base:Heap):Prop where
 DD:K.In base
 glob:base.Ns mainGlobals mg
 blt:∃mb,base.Ns builtinsNs mb/\∀x:Str,x≠"__name__"->mb x=bootBuiltins x
 nolimit:base.NoLimit
 bm:BmK mg base
structure Cx where
 prog:Program
 w:World
 K:PySem.W.Frag
 mg:Str->Option Value
 base:Heap
 A:Around
 N:List Str
 bV:Shared
 H₀:Hp
 env:Env
 outer:List Env
 stack:List Env
 ex:List Addr
 fn:Str->Bool
 calm:Bool
 pn:List (Addr×Obj)
 xe:Value->Shared->Prop
noncomputable def jq(l:List Env):List Addr:=l.filterMap (·.frame)
noncomputable abbrev Cx.fs(X:Cx):List Addr:=jq X.outer
def Zy(sc:Scope)(x:Str):Prop:=sc.names.lookup x=some .local\/sc.names.lookup x=some .cell\/sc.names.lookup x=some .free
def Loc(sc:Scope)(x:Str):Prop:=sc.names.lookup x=some .local\/sc.names.lookup x=some .cell
noncomputable def YI(sc:Scope)(x:Str):Bool:=match sc.names.lookup x with|some .local=>true|some .cell=>true|_=>false
theorem dq{sc:Scope}{x:Str}(h:YI sc x=true):Loc sc x:=by
 unfold YI at h;split at h;·exact Or.inl (by assumption)
 ·exact Or.inr (by assumption)
 ·cases h
noncomputable def Look(env:Env)(h:Heap)(m:Str->Option Value)(x:Str)(u:Value):Prop:=(env.kindOf x=some .local/\m x=some u)\/((env.kindOf x=some .cell\/env.kindOf x=some .free)/\∃c,env.cells.lookup x=some c/\h.IsCell c (some u))
structure Cx.Ok(X:Cx):Prop where
 mod:Mod X.K X.mg X.base
 kind:X.env.scope.kind= .function
 glob:X.env.globals=mainGlobals
 blt:X.env.builtins=builtinsNs
 above:X.bV.heap.objs.size<=X.env.locals
 inj:∀x y c,X.env.cells.lookup x=some c->X.env.cells.lookup y=some c->x=y
 has:∀x,(X.env.kindOf x=some .cell\/X.env.kindOf x=some .free)->∃c,X.env.cells.lookup x=some c
 Tz:∀x c,X.fn x=true->X.env.cells.lookup x=some c->X.bV.heap.objs.size<=c
 hd:X.calm=true->HBp X.base X.pn X.A
 frames:X.A.frames=some X.stack
 Xw:X.stack=X.outer\/(X.stack=X.env::X.outer/\X.env.frame=some X.env.locals)
 W3:∀b∈X.ex,b≠X.env.locals/\∀x c,X.env.cells.lookup x=some c->c≠b
 bs:∀b o,X.base.get? b=some o->X.bV.heap.get? b=some o/\X.H₀ b=none
 DB:X.base.objs.size<=X.bV.heap.objs.size
 yw:∀b o,X.base.get? b=some o->b∉X.ex
 Bl:∀b∈X.ex,b∉X.fs
 iP:X.bV.heap.FunFrames X.base X.outer
 Ob:∀b∈X.fs,X.H₀ b=none
structure Inv(X:Cx)(pins:List (Addr×Obj))(σ:List (Option V))(H:Hp)(s:Shared):Prop where
 ok:X.Ok
 os:s.os=X.bV.os
 bare:AllBare s.gens
 base:Un X.fs X.ex X.H₀ H X.bV.heap s.heap
 loc:∃m,s.heap.Ns X.env.locals m/\∀(i:Nat)(x:Str)(v:V),X.N[i]?=some x->σ[i]?=some (some v)->Zy X.env.scope x->∃u,RelV v u/\Look X.env s.heap m x u
 cell:∀x c,X.env.cells.lookup x=some c->∃v,s.heap.IsCell c v
 free:H X.env.locals=none
 fF:∀x c,X.env.cells.lookup x=some c->H c=none
 pin:∀p∈X.pn++pins,s.heap.get? p.1=some p.2/\H p.1=none/\p.1≠X.env.locals/\p.1∉X.fs/\∀v,p.2.data≠ .cell v
 bK:iK X.prog X.w H s.heap
 len:σ.length=X.N.length
section
variable{X:Cx}{pins:List (Addr×Obj)}{σ:List (Option V)}{H H':Hp}{s:Shared}{h':Heap}
theorem Cx.Ok.Uk(ok:X.Ok){b:Addr}{o:Obj}(e:X.base.get? b=some o):b∉X.fs:=λhb=>by have :=(ok.iP.mem hb).1;rw[e]at this;cases this
theorem Inv.bs(I:Inv X pins σ H s):∀b o,X.base.get? b=some o->s.heap.get? b=some o/\H b=none:=λb o e=>⟨I.base.keep b o (I.ok.bs b o e).1 (I.ok.bs b o e).2 (I.ok.Uk e) (I.ok.yw b o e),I.base.free b o (I.ok.bs b o e).1 (I.ok.bs b o e).2 (I.ok.yw b o e)⟩
theorem Inv.bk(I:Inv X pins σ H s):∀b o,X.base.get? b=some o->s.heap.get? b=some o:=λb o e=>(I.bs b o e).1
theorem Inv.mod(I:Inv X pins σ H s):Mod X.K X.mg X.base:=I.ok.mod
theorem Inv.hb(I:Inv X pins σ H s)(hc:X.calm=true):HB s.heap X.A:=by
 rcases I.ok.hd hc with h|⟨a,oe,vs,e1,e2,e3⟩;·exact .inl h
 ·exact .inr ⟨a,oe,vs,e1,e2.elim (I.bk a oe) λm=>(I.pin (a,oe) (A1 _ m)).1,e3⟩
theorem Inv.MO(I:Inv X pins σ H s)(hc:X.calm=true){it:Addr}(d:it∈X.ex\/X.bV.heap.objs.size<=it)(e:∀p∈X.pn++pins,p.1≠it):∀a,X.A.handled=some (.ref a)->a≠it:=λa c z=>by
 subst z;rcases I.ok.hd hc with h|⟨b,oe,vs,e1,e2,e3⟩;·rw[h]at c;cases c
 ·rw[e1]at c;cases c;rcases e2 with e2|e2
  ·rcases d with z|z;·exact I.ok.yw _ _ e2 z
   ·exact absurd (gb (bA e2) I.ok.DB) (Nat.not_lt.mpr z)
  ·exact e _ (A1 _ e2) rfl
theorem Inv.gL(I:Inv X pins σ H s):X.K.In s.heap:=I.ok.mod.DD.keeps I.bk
theorem Inv.fr(I:Inv X pins σ H s):∃m,Fr X.base X.env.locals s.heap m:=let⟨m,hn,_⟩:=I.loc;⟨m,hn,I.bk,cq I.ok.DB I.ok.above⟩
theorem Inv.lt(I:Inv X pins σ H s):X.env.locals<s.heap.objs.size:=let⟨_,hn,_⟩:=I.loc;hn.lt
theorem Inv.sz(I:Inv X pins σ H s):X.bV.heap.objs.size<=s.heap.objs.size:=cq I.ok.above (Nat.le_of_lt I.lt)
theorem Inv.aca(I:Inv X pins σ H s){a:Addr}(h:s.heap.objs.size<=a):a∉X.fs:=λhb=>by obtain⟨_,o,b,_⟩:=I.ok.iP.mem hb;exact absurd (gb (bA b) (cq I.sz h)) (Nat.lt_irrefl _)
theorem Inv.Tq(I:Inv X pins σ H s):∀x c,X.env.cells.lookup x=some c->c≠X.env.locals:=λx c e z=>by obtain⟨v,o,a,hd⟩:=I.cell x c e;obtain⟨m,⟨o',es,ep,d,b,_⟩,_⟩:=I.loc;rw[z,d]at a;cases a;rw[b]at hd;cases hd
theorem Inv.iP(I:Inv X pins σ H s):s.heap.FunFrames X.base X.outer:=by
 have all:∀(l:List Env),(∀b∈jq l,b∈X.fs)->X.bV.heap.FunFrames X.base l->s.heap.FunFrames X.base l:=by intro l;induction l with|nil=>intro _ _;trivial|cons env r i=>intro d hl;obtain⟨f,⟨L,o,c,hn,g,hd⟩,h⟩:=hl;have a:L∈X.fs:=d L (by unfold jq;rw[List.filterMap_cons,c];exact cj);obtain⟨sl,e⟩:=I.base.slot L o g (I.ok.Ob L a) a λz=>I.ok.Bl L z a;exact⟨f,⟨L,_,c,hn,e,hd⟩,i (λb hb=>d b (by unfold jq;rw[List.filterMap_cons,c];exact cF _ hb)) h⟩
 exact all X.outer (λ_ hb=>hb) I.ok.iP
theorem Inv.stack(I:Inv X pins σ H s):s.heap.FunFrames X.base X.stack:=by
 rcases I.ok.Xw with e|⟨e,a⟩;·rw[e];exact I.iP
 ·rw[e];obtain⟨m,hn,_⟩:=I.loc;refine .cons (by rw[I.ok.kind];decide) a hn ?_ I.iP;exact Heap.get?_none_of_le (cq I.ok.DB I.ok.above)
theorem Inv.fP(I:Inv X pins σ H s):∀b∈jq X.stack,b∈X.env.locals::X.fs:=λb hb=>by
 rcases I.ok.Xw with e|⟨e,a⟩;·rw[e]at hb;exact cF _ hb
 ·rw[e]at hb;unfold jq at hb;rw[List.filterMap_cons,a]at hb;exact hb
theorem Inv.xG(I:Inv X pins σ H s):∀b∈jq X.stack,H b=none:=λb hb=>by
 rcases List.mem_cons.mp (I.fP b hb)with e|hb;·rw[e];exact I.free
 ·obtain⟨_,o,a,_⟩:=I.ok.iP.mem hb;exact I.base.free b o a (I.ok.Ob b hb) λz=>I.ok.Bl b z hb
theorem Inv.step{g':Array GenState}{t':Nat}{d':Drawn}{ch:List Addr}(I:Inv X pins σ H s)(g:∀b∈ch,(b∈X.ex\/X.bV.heap.objs.size<=b)/\b≠X.env.locals/\(∀x c,X.env.cells.lookup x=some c->c≠b)/\∀p∈X.pn++pins,p.1≠b)(keep:∀b o,b≠X.env.locals->b∉X.fs->b∉ch->s.heap.get? b=some o->H b=none->h'.get? b=some o)(slot:∀b o,b≠X.env.locals->b∈X.fs->b∉ch->s.heap.get? b=some o->H b=none->∃sl,h'.get? b=some {o with slots:=sl})(free:∀b o,b∉ch->s.heap.get? b=some o->H b=none->H' b=none)(there:∀b o,b∉ch->s.heap.get? b=some o->∃o',h'.get? b=some o')(v9:∀b xs,H b=some (.tup xs)->H' b=some (.tup xs))(uN:∀b o u,H b=some (.DE o u)->H' b=some (.DE o u))(vq:∀b ps,H b=some (.vD ps)->H' b=some (.vD ps))(ns:∀m,s.heap.Ns X.env.locals m->h'.Ns X.env.locals m)(bK:iK X.prog X.w H' h')(A:AllBare g'):Inv X pins σ H' {s with heap:=h',gens:=g',drawn:=d',toks:=t'}:=by
 have w:∀b o,X.bV.heap.get? b=some o->b≠X.env.locals:=λb o e=>cW (gb (bA e) I.ok.above);have j:∀b o,X.bV.heap.get? b=some o->b∉X.ex->b∉ch:=λb o e a hb=>by
  rcases(g b hb).1 with z|z;·exact a z
  ·exact absurd (gb (bA e) z) (Nat.lt_irrefl _)
 have cellK:∀x c,X.env.cells.lookup x=some c->∀v,s.heap.IsCell c v->h'.IsCell c v:=λx c e v⟨o,f,hd⟩=>by
  have h:c∉ch:=λz=>(g c z).2.2.1 x c e rfl;by_cases hc:c∈X.fs;·obtain⟨sl,q⟩:=slot c o (I.Tq x c e) hc h f (I.fF x c e);exact⟨_,q,hd⟩
  ·exact⟨o,keep c o (I.Tq x c e) hc h f (I.fF x c e),hd⟩
 refine⟨I.ok,I.os,A,⟨λb o e n hb a=>?_,λb o e n hb a=>?_,λb o e n a=>?_,λb o e a=>?_,λb xs e=>v9 b xs (I.base.v9 b xs e),λb o xs e=>uN b o xs (I.base.uN b o xs e),λb ps e=>?_⟩,?_,λx c e=>?_,?_,λx c e=>?_,λp t=>?_,bK,I.len⟩;·exact keep b o (w b o e) hb (j b o e a) (I.base.keep b o e n hb a) (I.base.free b o e n a)
 ·obtain⟨sl,e1⟩:=I.base.slot b o e n hb a;obtain⟨B,e2⟩:=slot b _ (w b o e) hb (j b o e a) e1 (I.base.free b o e n a);exact⟨B,e2⟩
 ·obtain⟨o',e1⟩:=I.base.there b o e a;exact free b o' (j b o e a) e1 (I.base.free b o e n a)
 ·obtain⟨o',e1⟩:=I.base.there b o e a;exact there b o' (j b o e a) e1
 ·exact vq b ps (I.base.vq b ps e)
 ·obtain⟨m,hn,hl⟩:=I.loc;refine⟨m,ns m hn,λi x v e1 e2 e3=>?_⟩;obtain⟨u,r,l⟩:=hl i x v e1 e2 e3;refine⟨u,r,?_⟩;rcases l with l|⟨k,c,e,z⟩;·exact .inl l
  ·exact .inr ⟨k,c,e,cellK x c e _ z⟩
 ·obtain⟨v,z⟩:=I.cell x c e;exact⟨v,cellK x c e v z⟩
 ·obtain⟨m,⟨o,_,_,f,_⟩,_⟩:=I.loc;exact free _ o (λz=>(g _ z).2.1 rfl) f I.free
 ·obtain⟨v,o,f,hd⟩:=I.cell x c e;exact free c o (λz=>(g c z).2.2.1 x c e rfl) f (I.fF x c e)
 ·obtain⟨e,n,ne,y,d⟩:=I.pin p t;have h:p.1∉ch:=λz=>(g p.1 z).2.2.2 p t rfl;exact⟨keep p.1 p.2 ne y h e n,free p.1 p.2 h e n,ne,y,d⟩
theorem Inv.un{t':Nat}(I:Inv X pins σ H s)(u:Un X.fs [] H H' s.heap h')(bK:iK X.prog X.w H' h'):Inv X pins σ H' {s with heap:=h',toks:=t'}:=by obtain⟨m,⟨o,es,ep,a,r⟩,_⟩:=id I.loc;obtain⟨sl,g⟩:=u.any a I.free (by simp);exact I.step (g':=s.gens) (d':=s.drawn) (ch:=[]) (λ_ z=>nomatch z) (λb o _ hb _ e n=>u.keep b o e n hb (by simp)) (λb o _ hb _ e n=>u.slot b o e n hb (by simp)) (λb o _ e n=>u.free b o e n (by simp)) (λb o _ e=>u.there b o e (by simp)) u.v9 u.uN u.vq (λi hm=>by obtain⟨o',f,d,c,h⟩:=hm;rw[a]at c;cases c;exact⟨_,f,d,g,h⟩) bK I.bare
theorem Inv.call{g':Array GenState}{t':Nat}{d':Drawn}{ch:List Addr}(I:Inv X pins σ H s)(u:Un (jq X.stack) ch H H' s.heap h')(bK:iK X.prog X.w H' h')(j:AllBare g')(d:∀b∈ch,(b∈X.ex\/X.bV.heap.objs.size<=b)/\b≠X.env.locals/\(∀x c,X.env.cells.lookup x=some c->c≠b)/\∀p∈X.pn++pins,p.1≠b):Inv X pins σ H' {s with heap:=h',gens:=g',drawn:=d',toks:=t'}:=by obtain⟨m,⟨o,es,ep,f,r⟩,_⟩:=id I.loc;obtain⟨sl,a⟩:=u.any f I.free λz=>(d _ z).2.1 rfl;exact I.step (ch:=ch) d (λb o a hb hc e n=>u.keep b o e n (λz=>(List.mem_cons.mp (I.fP b z)).elim a hb) hc) (λb o _ _ hc e n=>u.any e n hc) (λb o hc e n=>u.free b o e n hc) (λb o hc e=>u.there b o e hc) u.v9 u.uN u.vq (λl hm=>by obtain⟨o',i,h,g,k⟩:=hm;rw[f]at g;cases g;exact⟨_,i,h,a,k⟩) bK j
theorem Inv.turned{t':Nat}{it:Addr}(I:Inv X pins σ H s)(k:∀b o,b≠it->s.heap.get? b=some o->h'.get? b=some o)(hn:H it=none)(a:it≠X.env.locals)(h1:it∈X.ex\/X.bV.heap.objs.size<=it)(h2:∀x c,X.env.cells.lookup x=some c->c≠it)(h3:∀p∈X.pn++pins,p.1≠it):Inv X pins σ H {s with heap:=h',toks:=t'}:=by
 have d:∀b u,H b=some u->b≠it:=λb u e z=>by rw[z,hn]at e;cases e
 refine I.step (g':=s.gens) (d':=s.drawn) (ch:=[it]) (λb hb=>?_) (λb o _ _ hc e _=>k b o (λz=>hc (by simp[z])) e) (λb o _ _ hc e _=>⟨o.slots,k b o (λz=>hc (by simp[z])) e⟩) (λ_ _ _ _ n=>n) (λb o hc e=>⟨o,k b o (λz=>hc (by simp[z])) e⟩) (λ_ _ e=>e) (λ_ _ _ e=>e) (λb ps e=>(by rw[e])) (λm hm=>?_) (λb u e=>?_) I.bare
 ·have e:b=it:=by simpa using hb
  subst e;exact⟨h1,a,h2,h3⟩
 ·obtain⟨o,es,ep,f,r⟩:=hm;exact⟨o,es,ep,k _ o (Ne.symm a) f,r⟩
 ·refine(I.bK b u e).vE (λc v hc q=>k c v ?_ q) (λ_ q=>q) λ_ _ q=>q;rcases hc with z|z;·rw[z];exact d b u e
  ·exact d c _ z
theorem Inv.tok(I:Inv X pins σ H s)(t:Nat):Inv X pins σ H {s with toks:=t}:=I.un (h':=s.heap) (t':=t) Un.refl I.bK
theorem Inv.kept{t':Nat}(I:Inv X pins σ H s)(k:∀b u,s.heap.get? b=some u->h'.get? b=some u):Inv X pins σ H {s with heap:=h',toks:=t'}:=I.un (Un.kept k) (I.bK.kept k)
theorem Inv.laid{a:Addr}{o:HO}{t':Nat}(I:Inv X pins σ H s)(k:∀b u,s.heap.get? b=some u->h'.get? b=some u)(c:s.heap.objs.size<=a)(new:bZ X.prog X.w (upd H a o) h' a o):Inv X pins σ (upd H a o) {s with heap:=h',toks:=t'}:=I.un (Un.laid k c (I.bK.fresh c)) (I.bK.laid k c new)
theorem Inv.write{x e:Addr}{o:HO}{t':Nat}(I:Inv X pins σ H s)(d:X4 (H x))(a:e=x\/H e=some (.own x))(k:∀b u,b≠e->s.heap.get? b=some u->h'.get? b=some u)(c:∃u,h'.get? e=some u)(new:bZ X.prog X.w (upd H x o) h' x o):Inv X pins σ (upd H x o) {s with heap:=h',toks:=t'}:=I.un (Un.write d a k c) (I.bK.write d a k c new)
theorem Inv.weak{a:List (Option V)}(I:Inv X pins σ H s)(hl:a.length=σ.length)(w:∀(i:Nat)v,a[i]?=some (some v)->σ[i]?=some (some v)):Inv X pins a H s:=⟨I.ok,I.os,I.bare,I.base,let⟨m,hn,b⟩:=I.loc;⟨m,hn,λi x v e1 e2 e3=>b i x v e1 (w i v e2) e3⟩,I.cell,I.free,I.fF,I.pin,I.bK,hl.trans I.len⟩
theorem Inv.Ir{a:List (Addr×Obj)}(I:Inv X pins σ H s)(h:∀p∈a,s.heap.get? p.1=some p.2/\H p.1=none/\p.1≠X.env.locals/\p.1∉X.fs/\∀v,p.2.data≠ .cell v):Inv X a σ H s:=⟨I.ok,I.os,I.bare,I.base,I.loc,I.cell,I.free,I.fF,λp b=>(List.mem_append.mp b).elim (λz=>I.pin p (A1 _ z)) (h p),I.bK,I.len⟩
theorem C3{N:List Str}(c:N.Nodup){i j:Nat}{x:Str}(a:N[i]?=some x)(b:N[j]?=some x):i=j:=by obtain⟨h1,e1⟩:=List.getElem?_eq_some_iff.mp a;obtain⟨h2,e2⟩:=List.getElem?_eq_some_iff.mp b;exact(List.getElem_inj c).mp (e1.trans e2.symm)
theorem wF{M:Model}{A:Around}{E:Value->Shared->Prop}{i:Nat}{x:Str}{v:V}{u:Value}{Q:Unit->Shared->Prop}(I:Inv X pins σ H s)(L:X.N.Nodup)(hi:X.N[i]?=some x)(g:Loc X.env.scope x)(r:RelV v u)(h:∀s',Inv X pins (σ.set i (some v)) H s'->(∃a,Heap.SameBut a s.heap s'.heap/\(a=X.env.locals\/X.env.cells.lookup x=some a))->Q () s')(U:X.fn x=true\/X.env.scope.names.lookup x=some .local:=by first|exact .inl rfl|exact .inr rfl|assumption):wpAny M A (storeName X.env x u) Q E s:=by
 obtain⟨m,hn,hl⟩:=id I.loc;have T:(X.env.scope.kind== .class||(X.env.scope.kind== .module&&X.env.locals !=X.env.globals))=false:=by rw[I.ok.kind];rfl
 have R:i<σ.length:=by rw[I.len];exact(List.getElem?_eq_some_iff.mp hi).1
 have Tq:=I.Tq;have tracked:∀{a:Addr}{h':Heap},(∃o,s.heap.get? a=some o/\H a=none)->Heap.SameBut a s.heap h'->iK X.prog X.w H h':=λ{a h'}ha f b ob e=>by
  obtain⟨_,_,P⟩:=ha;refine(I.bK b ob e).vE (λc B hc q=>(f.2 c ?_).trans q) (λ_ q=>q) λ_ _ q=>q;rintro rfl;rcases hc with rfl|hc;·rw[P]at e;cases e
  ·rw[P]at hc;cases hc
 rcases g with l|l
 ·refine wpAny_storeName_local l hn (λh' W f=>?_) T;obtain⟨oL,_,_,Y,_⟩:=id hn;refine h _ ⟨I.ok,I.os,I.bare,⟨λb o e n hb g=>?_,λb o e n hb g=>?_,I.base.free,λb o e g=>?_,I.base.v9,I.base.uN,I.base.vq⟩,⟨_,W,λj y K e1 e2 e3=>?_⟩,λy c e=>?_,I.free,I.fF,λp D=>?_,tracked ⟨oL,Y,I.free⟩ f,by simpa using I.len⟩ ⟨_,f, .inl rfl⟩;·exact(f.2 b (cW (gb (bA e) I.ok.above))).trans (I.base.keep b o e n hb g)
  ·obtain⟨sl,e1⟩:=I.base.slot b o e n hb g;exact⟨sl,(f.2 b (cW (gb (bA e) I.ok.above))).trans e1⟩
  ·obtain⟨o',e1⟩:=I.base.there b o e g;exact⟨o',(f.2 b (cW (gb (bA e) I.ok.above))).trans e1⟩
  ·by_cases t:j=i;·subst t;rw[hi]at e1;cases e1;rw[List.getElem?_set_self R]at e2;cases e2;exact⟨u,r, .inl ⟨l,by simp⟩⟩
   ·rw[List.getElem?_set_ne (Ne.symm t)]at e2;obtain⟨J,G,q⟩:=hl j y K e1 e2 e3;refine⟨J,G,?_⟩;rcases q with⟨k,e⟩|⟨k,c,e,z⟩;·refine .inl ⟨k,?_⟩;have :y≠x:=λe=>t (C3 L e1 (e▸hi));simp[this,e]
    ·exact .inr ⟨k,c,e,z.sameBut f (Tq y c e)⟩
  ·obtain⟨B,z⟩:=I.cell y c e;exact⟨B,z.sameBut f (Tq y c e)⟩
  ·obtain⟨e,n,ne,F,d⟩:=I.pin p D;exact⟨(f.2 p.1 ne).trans e,n,ne,F,d⟩
 ·have C:X.fn x=true:=by
   rcases U with z|z;·exact z
   ·rw[z]at l;cases l
  obtain⟨c,hc⟩:=I.ok.has x (.inl l);obtain⟨B,z⟩:=I.cell x c hc;refine wpAny_storeName_cell I.ok.kind l hc z (λh' N f=>?_);obtain⟨oc,S,Z⟩:=id z;refine h {s with heap:=h'} ⟨I.ok,I.os,I.bare,⟨λb o e n hb g=>?_,λb o e n hb g=>?_,I.base.free,λb o e g=>?_,I.base.v9,I.base.uN,I.base.vq⟩,⟨m,hn.sameBut f (Ne.symm (Tq x c hc)),λj y K e1 e2 e3=>?_⟩,λy w e=>?_,I.free,I.fF,λp D=>?_,tracked ⟨oc,S,I.fF x c hc⟩ f,by simpa using I.len⟩ ⟨c,f, .inr hc⟩;·exact(f.2 b (cW (gb (bA e) (I.ok.Tz x c C hc)))).trans (I.base.keep b o e n hb g)
  ·obtain⟨sl,e1⟩:=I.base.slot b o e n hb g;exact⟨sl,(f.2 b (cW (gb (bA e) (I.ok.Tz x c C hc)))).trans e1⟩
  ·obtain⟨o',e1⟩:=I.base.there b o e g;exact⟨o',(f.2 b (cW (gb (bA e) (I.ok.Tz x c C hc)))).trans e1⟩
  ·by_cases t:j=i;·subst t;rw[hi]at e1;cases e1;rw[List.getElem?_set_self R]at e2;cases e2;exact⟨u,r, .inr ⟨.inl l,c,hc,N⟩⟩
   ·rw[List.getElem?_set_ne (Ne.symm t)]at e2;obtain⟨J,G,q⟩:=hl j y K e1 e2 e3;refine⟨J,G,?_⟩;rcases q with q|⟨k,w,e,z'⟩;·exact .inl q
    ·refine .inr ⟨k,w,e,z'.sameBut f ?_⟩;rintro rfl;exact t (C3 L e1 (I.ok.inj _ _ _ e hc▸hi))
  ·by_cases O:w=c;·subst O;exact⟨_,N⟩
   ·obtain⟨w2,z2⟩:=I.cell y w e;exact⟨w2,z2.sameBut f O⟩
  ·obtain⟨e,n,ne,F,d⟩:=I.pin p D;refine⟨(f.2 p.1 ?_).trans e,n,ne,F,d⟩;intro q;rw[q,S]at e;have q':oc=p.2:=Option.some.inj e;exact d B (by rw[<-q'];exact Z)
theorem jd{M:Model}{A:Around}{E:Value->Shared->Prop}{i:Nat}{x:Str}{v:V}{u:Value}{Q:Unit->Shared->Prop}(I:Inv X pins σ H s)(b:X.N.Nodup)(hi:X.N[i]?=some x)(d:Loc X.env.scope x)(r:RelV v u)(h:∀s',Inv X pins (σ.set i (some v)) H s'->Q () s')(c:X.fn x=true\/X.env.scope.names.lookup x=some .local:=by first|exact .inl rfl|exact .inr rfl|assumption):wpAny M A (storeName X.env x u) Q E s:=wF I b hi d r (λs' a _=>h s' a) c
theorem Inv.Ke{s':Shared}{ch:List Addr}(I:Inv X pins σ H s)(f:s'.os=s.os)(u:Un (jq X.stack) ch H H' s.heap s'.heap)(bK:iK X.prog X.w H' s'.heap)(d:AllBare s'.gens)(a:∀b∈ch,(b∈X.ex\/X.bV.heap.objs.size<=b)/\b≠X.env.locals/\(∀x c,X.env.cells.lookup x=some c->c≠b)/\∀p∈X.pn++pins,p.1≠b):Inv X pins σ H' s':=by obtain⟨h',g',d',t',o'⟩:=s';have e:o'=s.os:=f;subst e;exact I.call (g':=g') (t':=t') (d':=d') u bK d a
end
noncomputable abbrev XK:=Value->Option Addr->Hp->Prop
noncomputable abbrev St:=List (Option V)
noncomputable abbrev VK:=V->Hp->Prop
noncomputable abbrev TE:=St->Hp->VK->Prop
noncomputable abbrev TT:=St->Hp->(Bool->Hp->Prop)->Prop
noncomputable abbrev TA:=St->Hp->(List V->Hp->Prop)->Prop
structure Ends where
 nx:St->Hp->Prop
 rt:VK
 bk:St->Hp->Prop:=λ_ _=>False
 ct:St->Hp->Prop:=λ_ _=>False
noncomputable abbrev TS:=Ends->St->Hp->Prop
def EP(X:Cx)(pins:List (Addr×Obj))(σ:St)(Q:VK)(u:Value)(s':Shared):Prop:=∃v H',Inv X pins σ H' s'/\RelV v u/\Q v H'
def TP(X:Cx)(pins:List (Addr×Obj))(σ:St)(Q:Bool->Hp->Prop)(b:Bool)(s':Shared):Prop:=∃H',Inv X pins σ H' s'/\Q b H'
def AP(X:Cx)(pins:List (Addr×Obj))(σ:St)(Q:List V->Hp->Prop)(us:List Value)(s':Shared):Prop:=∃vs H',Inv X pins σ H' s'/\Vals vs us/\Q vs H'
noncomputable def SP(X:Cx)(pins:List (Addr×Obj))(D:Ends)(f:Flow)(s':Shared):Prop:=match f with| .next=>∃a H',Inv X pins a H' s'/\D.nx a H'| .brk=>∃a H',Inv X pins a H' s'/\D.bk a H'| .cont=>∃a H',Inv X pins a H' s'/\D.ct a H'| .ret u=>∃v a H',Inv X pins a H' s'/\RelV v u/\D.rt v H'
noncomputable def PE(X:Cx)(e:Expr)(t:TE):Prop:=∀(pins:List (Addr×Obj))(s:Shared)(σ:St)(H:Hp)(Q:VK),Inv X pins σ H s->t σ H Q->wpAny (model X.prog X.w) X.A (eval e X.env) (EP X pins σ Q) X.xe s
noncomputable def PT(X:Cx)(e:Expr)(t:TT):Prop:=∀(pins:List (Addr×Obj))(s:Shared)(σ:St)(H:Hp)(Q:Bool->Hp->Prop),Inv X pins σ H s->t σ H Q->wpAny (model X.prog X.w) X.A (isTrue e X.env (eval e X.env)) (TP X pins σ Q) X.xe s
noncomputable def PW(X:Cx)(e:Expr)(t:TT):Prop:=∀(whole:Sem Value)(pins:List (Addr×Obj))(s:Shared)(σ:St)(H:Hp)(Q:Bool->Hp->Prop),Inv X pins σ H s->t σ H Q->wpAny (model X.prog X.w) X.A (isTrue e X.env whole) (TP X pins σ Q) X.xe s
theorem PW.pt{X:Cx}{e:Expr}{t:TT}(h:PW X e t):PT X e t:=h _
noncomputable def PA(X:Cx)(es:List Expr)(t:TA):Prop:=∀(a:Pos)(pins:List (Addr×Obj))(s:Shared)(σ:St)(H:Hp)(Q:List V->Hp->Prop),Inv X pins σ H s->t σ H Q->wpAny (model X.prog X.w) X.A (spliced (backTo a (starEach es X.env))) (AP X pins σ Q) X.xe s
noncomputable def PS(X:Cx)(st:Stmt)(t:TS):Prop:=∀(pins:List (Addr×Obj))(s:Shared)(σ:St)(H:Hp)(D:Ends),Inv X pins σ H s->t D σ H->wpAny (model X.prog X.w) X.A (exec st X.env) (SP X pins D) X.xe s
noncomputable def gR(X:Cx)(st:List Stmt)(t:TS):Prop:=∀(pins:List (Addr×Obj))(s:Shared)(σ:St)(H:Hp)(D:Ends),Inv X pins σ H s->t D σ H->wpAny (model X.prog X.w) X.A (execs st X.env) (SP X pins D) X.xe s
theorem bH{c:Type}{t:Sem c}{Q b:c->Shared->Prop}{M:Model}{A:Around}{E:Value->Shared->Prop}{s:Shared}(h:wpAny M A t Q E s)(d:∀a s,Q a s->b a s):wpAny M A t b E s:=f_ h d λ_ _ x=>x
section
variable{X:Cx}
noncomputable def Uc(i:Nat):TE:=λσ H Q=>∃v,σ[i]?=some (some v)/\Q v H
noncomputable def tC(v:V):TE:=λ_ H Q=>Q v H
theorem Ni{i:Nat}{x:Str}{j:Pos}(d:X.N[i]?=some x)(g:Zy X.env.scope x)(hd:(x==("__debug__":Str))=false:=by decide)(f:(x==("__classdict__":Str))=false:=by decide):PE X (.Name x j) (Uc i):=by
 intro pins s σ H Q I h;obtain⟨v,e,h⟩:=h;obtain⟨m,hn,hl⟩:=I.loc;obtain⟨u,r,l⟩:=hl i x v d e g;have fin:EP X pins σ Q u s:=⟨v,H,I,r,h⟩;rcases l with⟨a,hm⟩|⟨a,c,hc,b⟩;·exact wpAny_Name (wpAny_loadName_local I.ok.kind a hn hm fin) hd
 ·rcases a with a|a;·exact wpAny_Name (wpAny_loadName_cell I.ok.kind a hc b fin) hd
  ·exact wpAny_Name (wpAny_loadName_free I.ok.kind a hc b fin f) hd
theorem au{i j a}:PE X (.Constant (.int i) j a) (tC (.int i)):=λ_ _ _ H _ I h=>wpAny_Constant_int ⟨.int i,H,I.tok _,⟨_,rfl⟩,h⟩
theorem xf{b j a}:PE X (.Constant (.bool b) j a) (tC (.bl b)):=λ_ _ _ H _ I h=>Constant_bool ⟨.bl b,H,I,rfl,h⟩
theorem fO{j a}:PE X (.Constant .none j a) (tC .aO):=λ_ _ _ H _ I h=>Constant_none ⟨.aO,H,I,rfl,h⟩
theorem aN{x j a}:PE X (.Constant (.str x) j a) (tC (.str x)):=λ_ _ _ H _ I h=>Calls.Constant_str ⟨.str x,H,I.tok _,⟨_,rfl⟩,h⟩
def Gl(X:Cx)(x:Str):Prop:=X.env.kindOf x=some .globalImplicit
theorem fb{E:Value->Shared->Prop}{pins:List (Addr×Obj)}{s:Shared}{σ:St}{H:Hp}{x:Str}{u:Value}{b:Pos}{Q:Value->Shared->Prop}(I:Inv X pins σ H s)(a:Gl X x)(hm:X.mg x=some u)(h:Q u s)(hd:(x==("__debug__":Str))=false:=by decide):wpAny (model X.prog X.w) X.A (eval (.Name x b) X.env) Q E s:=Calls.Name_function_global I.ok.kind a (Calls.loadGlobal_global (by rw[I.ok.glob];exact I.mod.glob.keeps I.bk) hm h) hd
theorem iR{E:Value->Shared->Prop}{pins:List (Addr×Obj)}{s:Shared}{σ:St}{H:Hp}{x:Str}{u:Value}{c:Pos}{Q:Value->Shared->Prop}(I:Inv X pins σ H s)(a:Gl X x)(hm:X.mg x=none)(b:bootBuiltins x=some u)(h:Q u s)(hn:x≠"__name__":=by decide)(hd:(x==("__debug__":Str))=false:=by decide):wpAny (model X.prog X.w) X.A (eval (.Name x c) X.env) Q E s:=by obtain⟨mb,h1,h2⟩:=I.mod.blt;exact Calls.Name_function_global I.ok.kind a (Calls.loadGlobal_builtin (by rw[I.ok.glob];exact I.mod.glob.keeps I.bk) hm (by rw[I.ok.blt];exact h1.keeps I.bk) ((h2 x hn).trans b) h) hd
theorem zx{x:Str}{v:V}{u:Value}{b:Pos}(a:Gl X x)(hm:X.mg x=some u)(r:RelV v u)(hd:(x==("__debug__":Str))=false:=by decide):PE X (.Name x b) (tC v):=λ_ _ _ H _ I h=>fb I a hm ⟨v,H,I,r,h⟩ hd
theorem P4{x:Str}{v:V}{u:Value}{c:Pos}(a:Gl X x)(hm:X.mg x=none)(b:bootBuiltins x=some u)(r:RelV v u)(hn:x≠"__name__":=by decide)(hd:(x==("__debug__":Str))=false:=by decide):PE X (.Name x c) (tC v):=λ_ _ _ H _ I h=>iR I a hm b ⟨v,H,I,r,h⟩ hn hd
variable{a b:Expr}{ta tb:TE}{pos:Pos}
noncomputable def PC(X:Cx)(op:CmpOp)(a b:Expr)(t:TE):Prop:=∀(pins:List (Addr×Obj))(s:Shared)(σ:St)(H:Hp)(Q:VK),Inv X pins σ H s->t σ H Q->wpAny (model X.prog X.w) X.A (eval a X.env) (λv c=>wpAny (model X.prog X.w) X.A (eval b X.env) (λu d=>wpAny (model X.prog X.w) X.A (compareOp op v u) (EP X pins σ Q) X.xe d) X.xe c) X.xe s
noncomputable def tB(t:TE):TT:=λσ H Q=>t σ H λx d=>∃c,x= .bl c/\Q c d
theorem TY{op:CmpOp}{t:TE}(h:PC X op a b t)(h1:behindInMarks op b=false:=by first|exact k _ (by decide) (by decide)|rfl):PT X (.Compare a [op] [b] pos) (tB t):=by intro pins s σ H Q I hw;refine wpAny_isTrue_Compare1 (bH (h pins s σ H _ I hw) λv s1 h1=>bH h1 λu s2 h2=>bH h2 λc l j=>?_) h1;obtain⟨x,e,f,i,g⟩:=j;obtain⟨d,rfl,q⟩:=g;cases i;exact uH ⟨e,f,q⟩
theorem dz{e:Expr}{t:TE}(h:PE X e t)(g:∀whole,isTrue e X.env whole=(do let v<-whole;standAt e.pos;holding [v] (truthy v)):=by intro _;rfl):PT X e (tB t):=by intro pins s σ H Q I hw;refine isTrue_plain (bH (h pins s σ H _ I hw) λv s1 k=>?_) (g _);obtain⟨x,c,f,j,i⟩:=k;obtain⟨d,rfl,q⟩:=i;cases j;exact uH ⟨c,f,q⟩
variable{tA tB':TT}{rest:List Expr}
noncomputable def tOr(t u:TT):TT:=λσ H Q=>t σ H λc d=>if c=true then Q true d else u σ d Q
noncomputable def acv(t:TT):TT:=λσ H Q=>t σ H λc d=>Q (!c) d
theorem jj(ha:PT X a tA):PW X (.BoolOp .Or [a] pos) tA:=by intro d pins s σ H Q I h;refine isTrue_or (bH (ha pins s σ H Q I h) λc s1 e=>?_);cases c with|false=>exact isTrue_or_nil e|true=>exact e
theorem oO(ha:PT X a tA)(hb:PW X (.BoolOp .Or (b::rest) pos) tB'):PW X (.BoolOp .Or (a::b::rest) pos) (tOr tA tB'):=by intro g pins s σ H Q I h;refine isTrue_or (bH (ha pins s σ H _ I h) λc s1 i=>?_);obtain⟨d,e,f⟩:=i;cases c with|true=>exact⟨d,e,f⟩|false=>exact hb g pins s1 σ d Q e f
theorem fH(ha:PT X a tA):PT X (.UnaryOp .Not a pos) (acv tA):=by intro pins s σ H Q I h;exact isTrue_not (ha pins s σ H (λc d=>Q (!c) d) I h)
noncomputable def Yu(ta tb:TE):TE:=λσ H Q=>ta σ H λx d=>∃c,x= .bl c/\if c=true then tb σ d Q else Q (.bl false) d
noncomputable def XN(ta:TE):TE:=λσ H Q=>ta σ H λx d=>∃c,x= .bl c/\Q (.bl (!c)) d
theorem nU{op}{t:TE}(h:PE X a t):PE X (.BoolOp op [a] pos) t:=λpins s σ H Q I hw=>BoolOp_one (h pins s σ H Q I hw)
theorem nH(ha:PE X a ta)(hb:PE X (.BoolOp .And (b::rest) pos) tb):PE X (.BoolOp .And (a::b::rest) pos) (Yu ta tb):=by intro pins s σ H Q I h;refine BoolOp_and (bH (ha pins s σ H _ I h) λv s1 i=>?_);obtain⟨x,e,f,g,d⟩:=i;obtain⟨c,rfl,d⟩:=d;cases g;refine uH ?_;cases c with|true=>exact hb pins s1 σ e Q f d|false=>exact⟨.bl false,e,f,rfl,d⟩
theorem T5(ha:PE X a ta):PE X (.UnaryOp .Not a pos) (XN ta):=by intro pins s σ H Q I h;refine UnaryOp_ (bH (ha pins s σ H _ I h) λv s1 i=>?_);obtain⟨x,e,f,g,d⟩:=i;obtain⟨c,rfl,d⟩:=d;cases g;exact not_of (uH ⟨.bl (!c),e,f,rfl,d⟩)
noncomputable def tIf(t:TT)(ta tb:TE):TE:=λσ H Q=>t σ H λc d=>if c=true then ta σ d Q else tb σ d Q
theorem f7{c:Expr}(hc:PT X c tA)(ha:PE X a ta)(hb:PE X b tb):PE X (.IfExp c a b pos) (tIf tA ta tb):=by intro pins s σ H Q I h;refine wpAny_IfExp (bH (hc pins s σ H _ I h) λd s1 i=>?_);obtain⟨e,f,g⟩:=i;cases d with|true=>exact ha pins s1 σ e Q f g|false=>exact hb pins s1 σ e Q f g
end
noncomputable def bI(K:PySem.W.Frag)(H:Hp)(a:Addr)(xs:List V):Prop:=Rd H a (.lst xs)\/∃(o:Obj)(its:Array Value)(n:Nat),K.lookup a=some o/\o.cls= .type "list"/\o.dict=none/\o.data= .seq its n/\its.size<=sizeLine/\Vals xs its.toList
noncomputable def bQ(K:PySem.W.Frag)(H:Hp)(a:Addr)(xs:List V):Prop:=Rd H a (.tup xs)\/∃(o:Obj)(its:Array Value)(n:Nat),K.lookup a=some o/\o.cls= .type "tuple"/\o.data= .seq its n/\its.size<=sizeLine/\Vals xs its.toList
noncomputable def acu:Value->Option V| .none=>some .aO| .bool b=>some (.bl b)| .int i _=>some (.int i)| .str x _=>some (.str x)| .bytes b _=>some (.Iv b)| .float b _=>some (.S5 b)| .ref a=>some (.ref a)| .type n=>some (.ty n)|_=>none
theorem RelV.abs{x:V}{u:Value}(r:RelV x u):acu u=some x:=by cases x with|aO=>cases r;rfl|bl _=>cases r;rfl|int _=>obtain⟨t,rfl⟩:=r;rfl|str _=>obtain⟨t,rfl⟩:=r;rfl|Iv _=>obtain⟨t,rfl⟩:=r;rfl|S5 _=>obtain⟨t,rfl⟩:=r;rfl|ref _=>cases r;rfl|ty _=>cases r;rfl
theorem RelV.inj{x y:V}{u:Value}(r:RelV x u)(q:RelV y u):x=y:=Option.some.inj (r.abs.symm.trans q.abs)
theorem Vals.inj:∀{xs ys:List V}{us:List Value},Vals xs us->Vals ys us->xs=ys|_,_,_, .nil, .nil=>rfl|_,_,_, .cons r t, .cons a t'=>by rw[r.inj a,Vals.inj t t']
section
variable{X:Cx}{pins:List (Addr×Obj)}{σ:St}{H:Hp}{s:Shared}{a:Addr}{xs ys:List V}
theorem bI.of{K:PySem.W.Frag}(h:H a=some (.lst xs)):bI K H a xs:= .inl (.inl h)
theorem bQ.of{K:PySem.W.Frag}(h:H a=some (.tup xs)):bQ K H a xs:= .inl (.inl h)
theorem Inv.list(I:Inv X pins σ H s)(h:bI X.K H a xs):∃its:List Value,Vals xs its/\PlainL s.heap a its.toArray/\xs.length<=sizeLine:=by
 rcases h with h|⟨o,its,n,b,hc,hd,c,d,r⟩;·obtain⟨z,its,n,r,e⟩:=h.ok I.bK;exact⟨its,r,⟨_,n,e,rfl,rfl,rfl⟩,z⟩
 ·refine⟨its.toList,r,⟨o,n,I.gL a o b,hc,hd,by simpa using c⟩,?_⟩;have e:=r.length;simp only[Array.length_toList]at e;lia
theorem Inv.tuple(I:Inv X pins σ H s)(h:bQ X.K H a xs):∃its:List Value,Vals xs its/\IsTup s.heap a its.toArray/\xs.length<=sizeLine:=by
 rcases h with h|⟨o,its,n,b,hc,c,d,r⟩;·obtain⟨z,its,r,p⟩:=h.ok I.bK;exact⟨its,r,p,z⟩
 ·refine⟨its.toList,r,⟨o,I.gL a o b,hc,n,by simpa using c⟩,?_⟩;have e:=r.length;simp only[Array.length_toList]at e;lia
theorem Inv.i8(I:Inv X pins σ H s)(h:bI X.K H a xs)(h':bI X.K H a ys):xs=ys:=by
 obtain⟨its,r,⟨o,n,e,_,_,d⟩,_⟩:=I.list h;obtain⟨its',c,⟨o',f,e',_,_,d'⟩,_⟩:=I.list h';rw[e]at e';cases e';rw[d]at d';injection d' with b _;have :its=its':=by simpa using congrArg Array.toList b
 subst this;exact r.inj c
theorem Inv.JR(I:Inv X pins σ H s)(h:bQ X.K H a xs)(h':bQ X.K H a ys):xs=ys:=by
 obtain⟨its,r,⟨o,e,_,n,d⟩,_⟩:=I.tuple h;obtain⟨its',c,⟨o',e',_,f,d'⟩,_⟩:=I.tuple h';rw[e]at e';cases e';rw[d]at d';injection d' with b _;have :its=its':=by simpa using congrArg Array.toList b
 subst this;exact r.inj c
end
noncomputable abbrev Cx.ur(X:Cx)(E:Value->Shared->Prop):Cx:={X with xe:=E}
noncomputable abbrev Cx.Gw(X:Cx):Cx:=X.ur λ_ _=>False
theorem Cx.Ok.ur{X:Cx}(ok:X.Ok)(E:Value->Shared->Prop):(X.ur E).Ok:=⟨ok.mod,ok.kind,ok.glob,ok.blt,ok.above,ok.inj,ok.has,ok.Tz,ok.hd,ok.frames,ok.Xw,ok.W3,ok.bs,ok.DB,ok.yw,ok.Bl,ok.iP,ok.Ob⟩
theorem Cx.Ok.ie{X:Cx}{E:Value->Shared->Prop}(ok:(X.ur E).Ok):X.Ok:=⟨ok.mod,ok.kind,ok.glob,ok.blt,ok.above,ok.inj,ok.has,ok.Tz,ok.hd,ok.frames,ok.Xw,ok.W3,ok.bs,ok.DB,ok.yw,ok.Bl,ok.iP,ok.Ob⟩
section
variable{X:Cx}{pins:List (Addr×Obj)}{σ:St}{H:Hp}{s:Shared}{E:Value->Shared->Prop}
theorem Inv.ur(I:Inv X pins σ H s)(E:Value->Shared->Prop):Inv (X.ur E) pins σ H s:=⟨I.ok.ur E,I.os,I.bare,I.base,I.loc,I.cell,I.free,I.fF,I.pin,I.bK,I.len⟩
theorem Inv.ie(I:Inv (X.ur E) pins σ H s):Inv X pins σ H s:=⟨I.ok.ie,I.os,I.bare,I.base,I.loc,I.cell,I.free,I.fF,I.pin,I.bK,I.len⟩
theorem SP.ie{D:Ends}{f:Flow}{s':Shared}(h:SP (X.ur E) pins D f s'):SP X pins D f s':=by cases f with|next=>obtain⟨a,H',I,q⟩:=h;exact⟨a,H',I.ie,q⟩|brk=>obtain⟨a,H',I,q⟩:=h;exact⟨a,H',I.ie,q⟩|cont=>obtain⟨a,H',I,q⟩:=h;exact⟨a,H',I.ie,q⟩|ret u=>obtain⟨v,a,H',I,r,q⟩:=h;exact⟨v,a,H',I.ie,r,q⟩
theorem gR.Gw{st:List Stmt}{t:TS}(h:gR X.Gw st t):gR X st t:=λpins s σ H D I hw=>f_ (h pins s σ H D (I.ur _) hw) (λ_ _ q=>q.ie) λ_ _ z=>False.elim z
end
section
variable{X:Cx}{st:Stmt}{rest:List Stmt}{t u:TS}{e:Expr}{te:TE}{pos:Pos}
noncomputable def Yi:TS:=λD σ H=>D.nx σ H
noncomputable def cg(t u:TS):TS:=λD σ H=>t {D with nx:=u D} σ H
theorem aK:gR X [] Yi:=λ_ _ σ H _ I h=>wpAny_execs_nil ⟨σ,H,I,h⟩
theorem aj(h1:PS X st t)(h2:gR X rest u):gR X (st::rest) (cg t u):=by intro pins s σ H D I h;refine wpAny_execs_cons (bH (h1 pins s σ H {D with nx:=u D} I h) λf s1 q=>?_);cases f with|next=>obtain⟨b,H',a,q⟩:=q;exact h2 pins s1 b H' D a q|ret v=>exact q|brk=>exact q|cont=>exact q
theorem ak(h1:PS X st t):gR X [st] t:=by intro pins s σ H D I h;refine wpAny_execs_cons (bH (h1 pins s σ H D I h) λf s1 q=>?_);cases f with|next=>exact wpAny_execs_nil q|ret v=>exact q|brk=>exact q|cont=>exact q
theorem Inv.quiet{pins:List (Addr×Obj)}{σ:St}{H:Hp}{s:Shared}(I:Inv X pins σ H s):interactive X.env=false:=by simp[interactive,I.ok.kind]
noncomputable def Yy(te:TE):TS:=λD σ H=>te σ H λ_ a=>D.nx σ a
theorem jD(c:PE X e te)(d:swapsWith e none pos.line X.env=pure false:=by rfl):PS X (.Expr e pos) (Yy te):=by intro pins s σ H D I h;exact wpAny_Expr_any (bH (c pins s σ H _ I h) λv s1⟨x,a,b,g,f⟩=>⟨σ,a,b,f⟩) I.quiet d
noncomputable def ab5(te:TE):TS:=λD σ H=>te σ H D.rt
theorem aB(c:PE X e te):PS X (.Return (some e) pos) (ab5 te):=by intro pins s σ H D I h;exact wpAny_Return_some (bH (c pins s σ H _ I h) λv s1⟨x,a,b,f,d⟩=>⟨x,σ,a,b,f,d⟩)
noncomputable def abN(c:TT)(t u:TS):TS:=λD σ H=>c σ H λb a=>if b=true then t D σ a else u D σ a
theorem bj{c:Expr}{a b:List Stmt}{j:TT}(hc:PT X c j)(ha:gR X a t)(hb:gR X b u):PS X (.If c a b pos) (abN j t u):=by intro pins s σ H D I h;refine wpAny_If (bH (hc pins s σ H _ I h) λd s1 k=>?_);obtain⟨f,g,i⟩:=k;cases d with|true=>exact ha pins s1 σ f D g i|false=>exact hb pins s1 σ f D g i
end
noncomputable abbrev TG:=V->St->Hp->(St->Hp->Prop)->Prop
noncomputable abbrev WX:=List V->St->Hp->(St->Hp->Prop)->Prop
noncomputable def PG(X:Cx)(target:Expr)(t:TG):Prop:=∀(pins:List (Addr×Obj))(s:Shared)(σ:St)(H:Hp)(v:V)(u:Value)(Q:St->Hp->Prop),Inv X pins σ H s->RelV v u->t v σ H Q->wpAny (model X.prog X.w) X.A (assign target X.env u) (λ_ s'=>∃a H',Inv X pins a H' s'/\Q a H') X.xe s
noncomputable def zI(X:Cx)(ts:List Expr)(t:WX):Prop:=∀(pins:List (Addr×Obj))(s:Shared)(σ:St)(H:Hp)(vs:List V)(us:List Value)(Q:St->Hp->Prop),Inv X pins σ H s->Vals vs us->t vs σ H Q->wpAny (model X.prog X.w) X.A (assignInOrder ((assignEach ts X.env).map (·.2)) us) (λ_ s'=>∃a H',Inv X pins a H' s'/\Q a H') X.xe s
noncomputable abbrev UJ:=V->V->V->Hp->(Hp->Prop)->Prop
noncomputable def aaO(X:Cx)(t:UJ):Prop:=∀(pins:List (Addr×Obj))(s:Shared)(σ:St)(H:Hp)(o i v:V)(b a u:Value)(Q:Hp->Prop),Inv X pins σ H s->RelV o b->RelV i a->RelV v u->t o i v H Q->wpAny (model X.prog X.w) X.A (setItem b a u) (λ_ s'=>∃H',Inv X pins σ H' s'/\Q H') X.xe s
noncomputable abbrev TIp:=V->V->Hp->VK->Prop
noncomputable def PIp(X:Cx)(op:Operator)(t:TIp):Prop:=∀(pins:List (Addr×Obj))(s:Shared)(σ:St)(H:Hp)(x y:V)(v u:Value)(Q:VK),Inv X pins σ H s->RelV x v->RelV y u->t x y H Q->wpAny (model X.prog X.w) X.A (inplaceOp op v u) (EP X pins σ Q) X.xe s
section
variable{X:Cx}{pos:Pos}
noncomputable def kx(i:Nat):TG:=λv σ H Q=>Q (σ.set i (some v)) H
theorem bx{i:Nat}{x:Str}(b:X.N.Nodup)(hi:X.N[i]?=some x)(d:Loc X.env.scope x)(c:X.fn x=true\/X.env.scope.names.lookup x=some .local:=by first|exact .inl rfl|exact .inr rfl|assumption):PG X (.Name x pos) (kx i):=by intro pins s σ H v u Q I r h;exact wpAny_assign_Name (jd I b hi d r (λs' a=>⟨_,H,a,h⟩) c)
noncomputable def aa_:WX:=λvs σ H Q=>vs=[]/\Q σ H
noncomputable def Np(t:TG)(u:WX):WX:=λvs σ H Q=>∃v r,vs=v::r/\t v σ H λa H'=>u r a H' Q
theorem ma:zI X [] aa_:=by intro pins s σ H vs us Q I r h;obtain⟨e,h⟩:=h;subst e;cases r;exact assignInOrder_nil ⟨σ,H,I,h⟩
theorem cO{e:Expr}{es:List Expr}{t:TG}{u:WX}(h1:PG X e t)(h2:zI X es u)(c:(assignEach (e::es) X.env).map (·.2)=assign e X.env::(assignEach es X.env).map (·.2):=by rfl):zI X (e::es) (Np t u):=by intro pins s σ H vs us Q I r h;obtain⟨v,vr,e1,h⟩:=h;subst e1;cases r with|cons r rr=>rw[c];refine assignInOrder_cons (bH (h1 pins s σ H _ _ _ I r h) λ_ s1 f=>?_);obtain⟨g,a,b,d⟩:=f;exact h2 pins s1 g a _ _ Q b rr d
noncomputable def Z7(K:PySem.W.Frag)(n:Nat)(t:WX):TG:=λv σ H Q=>∃a xs,v= .ref a/\bQ K H a xs/\xs.length=n/\t xs σ H Q
theorem t9{es:List Expr}{k:Nat}{t:WX}{n:Nat}(hc:X.calm=true)(h:zI X es t)(hn:(assignEach es X.env).length=n:=by rfl)(f:(assignEach es X.env).findIdx? (·.1)=none:=by rfl):PG X (.Tuple es k pos) (Z7 X.K n t):=by intro pins s σ H v u Q I r hw;obtain⟨a,xs,e1,hq,hl,hw⟩:=hw;subst e1;cases r;obtain⟨its,c,ht,i⟩:=I.tuple hq;refine Qa (I.hb hc) (show s.heap.IsTuple a its.toArray from ht) (by simp[hn,<-hl,c.length]) f λh' g=>?_;have d:Inv X pins σ H {s with heap:=h'}:=I.kept (t':=s.toks) λb o e=>g b o (cW (bA e)) e;exact h pins _ σ H xs _ Q d (by simpa using c) hw
noncomputable def abJ(to d:TE)(t:UJ):TG:=λv σ H Q=>to σ H λo a=>d σ a λi b=>t o i v b λc=>Q σ c
theorem Up{o i:Expr}{to d:TE}{t:UJ}(m:PE X o to)(hi:PE X i d)(n:aaO X t)(ha:∀v,assign (.Subscript o i pos) X.env v=(do let a<-holding [v] (eval o X.env);let b<-holding [v,a] (eval i X.env);standAt pos;holding [v,a,b] (setItem a b v);release [v,a,b] []):=by intro _;rfl):PG X (.Subscript o i pos) (abJ to d t):=by intro pins s σ H v u Q I r h;rw[ha];refine ao (iJ (bH (m pins s σ H _ I h) λa s1 c=>?_));obtain⟨x,e,j,z,p⟩:=c;refine ao (iJ (bH (hi pins s1 σ e _ j p) λb s2 c=>?_));obtain⟨y,f,k,A,q⟩:=c;refine ao (wpAny_standAt (ao (iJ (bH (n pins s2 σ f x y v a b u _ k z A r q) λ_ B c=>?_))));obtain⟨g,l,w⟩:=c;exact wpAny_release ⟨σ,g,l,w⟩
noncomputable def Oz(b:TE)(g:TG):TS:=λD σ H=>b σ H λx a=>g x σ a D.nx
theorem V1{tg e:Expr}{a:TE}{g:TG}(d:PE X e a)(f:PG X tg g)(i:swapsWithSole [tg] e pos.line X.env=pure false:=by rfl)(hw:swappedStores [tg] e X.env=pure none:=by rfl)(h1:(assignEach [tg] X.env).map (·.2)=[assign tg X.env]:=by rfl):PS X (.Assign [tg] e pos) (Oz a g):=by intro pins s σ H D I h;refine wpAny_Assign_stores (bH (d pins s σ H _ I h) λv s1 l=>?_) i hw;obtain⟨x,b,c,k,j⟩:=l;rw[h1];exact bH (f pins s1 σ b x v _ c k j) λ_ s2 q=>q
theorem aR{i:Nat}{x:Str}{e:Expr}{a:TE}{pos':Pos}(f:X.N.Nodup)(hi:X.N[i]?=some x)(l:Loc X.env.scope x)(g:PE X e a)(k:swapsWith e (some (.Name x pos')) pos.line X.env=pure false:=by rfl)(j:X.fn x=true\/X.env.scope.names.lookup x=some .local:=by first|exact .inl rfl|exact .inr rfl|assumption):PS X (.Assign [.Name x pos'] e pos) (Oz a (kx i)):=by intro pins s σ H D I h;refine wpAny_Assign_Name (bH (g pins s σ H _ I h) λv s1 o=>?_) k;obtain⟨y,b,c,n,m⟩:=o;exact jd c f hi l n (λs2 d=>⟨_,b,d,m⟩) j
noncomputable def ab7(i:Nat)(c:TE)(d:TIp):TS:=λD σ H=>∃x,σ[i]?=some (some x)/\c σ H λy a=>d x y a λz b=>D.nx (σ.set i (some z)) b
theorem zZ{i:Nat}{x:Str}{e:Expr}{f:TE}{op:Operator}{g:TIp}{pos':Pos}(t:X.N.Nodup)(hi:X.N[i]?=some x)(b:Loc X.env.scope x)(B:PE X e f)(E:PIp X op g)(C:X.fn x=true\/X.env.scope.names.lookup x=some .local:=by first|exact .inl rfl|exact .inr rfl|assumption):PS X (.AugAssign (.Name x pos') op e pos) (ab7 i f g):=by
 intro pins s σ H D I h;obtain⟨v,e1,h⟩:=h;obtain⟨m,hn,hl⟩:=I.loc;have N:Zy X.env.scope x:=by rcases b with k|k;exact .inl k;exact .inr (.inl k)
 obtain⟨u,r,l⟩:=hl i x v hi e1 N;refine wpAny_AugAssign_Name ?_;have go:wpAny (model X.prog X.w) X.A (eval e X.env) (λw L=>wpAny (model X.prog X.w) X.A (inplaceOp op u w) (λr M=>wpAny (model X.prog X.w) X.A (storeName X.env x r) (λ_=>SP X pins D .next) X.xe M) X.xe L) X.xe s:=by refine bH (B pins s σ H _ I h) λw s1 d=>?_;obtain⟨y,j,o,J,F⟩:=d;refine bH (E pins s1 σ j v y u w _ o r J F) λz s2 d=>?_;obtain⟨P,n,p,K,G⟩:=d;exact jd p t hi b K (λO q=>⟨_,n,q,G⟩) C
 rcases l with⟨a,hm⟩|⟨a,c,hc,A⟩;·exact wpAny_loadName_local I.ok.kind a hn hm go
 ·rcases a with a|a;·exact wpAny_loadName_cell I.ok.kind a hc A go
  ·rcases b with k|k;·have :X.env.scope.names.lookup x=some .free:=a;rw[k]at this;cases this
   ·have :X.env.scope.names.lookup x=some .free:=a;rw[k]at this;cases this
noncomputable def ipI(f:Int->Int->Int):TIp:=λx y H Q=>∃i j,x= .int i/\y= .int j/\Q (.int (f i j)) H
theorem yl:PIp X .Add (ipI λi j=>i+j):=by intro pins s σ H x y v u Q I a b h;obtain⟨i,j,e1,e2,q⟩:=h;subst e1;subst e2;obtain⟨t,rfl⟩:=a;obtain⟨t',rfl⟩:=b;exact iadd_int ⟨.int _,H,I.tok _,⟨_,rfl⟩,q⟩
end
section
variable{X:Cx}{pos:Pos}
noncomputable def UP(c:TT)(tb:TS):TS:=λD σ H=>∃W:Nat->St->Hp->Prop,(∃m,W m σ H)/\∀m σ H,W m σ H->c σ H λb a=>if b=true then∃N:St->Hp->Prop,(∀e H',N e H'->∃d,d<m/\W d e H')/\tb {D with nx:=N,ct:=N,bk:=D.nx} σ a else D.nx σ a
theorem Cv{c:Expr}{body:List Stmt}{u:TT}{tb:TS}(t:PassesOwn (model X.prog X.w) X.A X.env X.xe)(hc:PT X c u)(hb:gR X body tb):PS X (.While c body [] pos) (UP u tb):=by
 intro pins s σ H D I h;obtain⟨W,⟨y,w0⟩,turn⟩:=h;refine wpAny_While (codeAny_whileLoop (λn s'=>∃w H',Inv X pins w H' s'/\W n w H') ?_ y ⟨σ,H,I,w0⟩);rintro n s1⟨i,o,x,w1⟩;refine wpAny_passesOwn t (bH (hc pins s1 i o _ x (turn n i o w1)) λb s2 z=>?_);obtain⟨p,q,e⟩:=z;cases b with
  |true=>obtain⟨N,r,e⟩:=e;rw[if_pos rfl];refine wpAny_passesOwn t (bH (hb pins s2 i p _ q e) λf A g=>?_);cases f with|next=>obtain⟨d,a,j,l⟩:=g;obtain⟨k,hm,m⟩:=r d a l;exact⟨k,hm,d,a,j,m⟩|cont=>obtain⟨d,a,j,l⟩:=g;obtain⟨k,hm,m⟩:=r d a l;exact⟨k,hm,d,a,j,m⟩|brk=>exact g|ret v=>exact g
  |false=>rw[if_neg eC];exact wpAny_execs_nil ⟨i,p,q,e⟩
end
structure It where
 go:Nat->Hp->Prop
 vB:Nat->Hp->V->Hp->Prop
 stop:Nat->Hp->Prop
noncomputable def lr(X:Cx)(pins:List (Addr×Obj))(H:Hp)(b:Addr):Prop:=H b=none/\b≠X.env.locals/\b∉X.fs/\(b∈X.ex\/X.bV.heap.objs.size<=b)/\(∀x c,X.env.cells.lookup x=some c->c≠b)/\∀p∈X.pn++pins,p.1≠b
theorem Inv.EV{X:Cx}{pins:List (Addr×Obj)}{σ:St}{H H':Hp}{s:Shared}{b:Addr}(I:Inv X pins σ H s)(hb:s.heap.objs.size<=b)(hn:H' b=none):lr X pins H' b:=by
 refine⟨hn,Nat.ne_of_gt (gb I.lt hb),I.aca hb, .inr (cq I.sz hb),λx c e z=>?_,λp a z=>?_⟩;·obtain⟨v,q⟩:=I.cell x c e;exact absurd (gb q.lt (by rw[z];exact hb)) (Nat.lt_irrefl _)
 ·exact absurd (gb (bA (I.pin p a).1) (by rw[z];exact hb)) (Nat.lt_irrefl _)
structure Turn(P:Program)(w:World)(K:PySem.W.Frag)(tg:Expr)(J:It)(fp:List Addr)(it:Addr)(tn:Nat->Heap->Prop):Prop where
 mem:it∈fp
 obj:∀i h,tn i h->∀b∈fp,∃o,h.get? b=some o/\∀v,o.data≠ .cell v
 keep:∀i h h',tn i h->(∀b∈fp,∀o,h.get? b=some o->h'.get? b=some o)->tn i h'
 item:∀(X:Cx),X.prog=P->X.w=w->X.K=K->X.calm=true->∀(i:Nat)(pins:List (Addr×Obj))(s:Shared)(σ:St)(H:Hp)(E:Value->Shared->Prop),Inv X pins σ H s->(∀b∈fp,lr X pins H b)->tn i s.heap->J.go i H->wpAny (model P w) X.A (pyNext (.ref it)) (λr s1=>∃u,r=some u/\wpAny (model P w) X.A (letOwnedTupleGo tg (.ref it) u) (λ_ s2=>∃x H',Inv X pins σ H' s2/\RelV x u/\J.vB i H x H'/\tn (i+1) s2.heap/\∀b∈fp,H' b=none) E s1) E s
 done:∀(X:Cx),X.prog=P->X.w=w->X.K=K->X.calm=true->∀(i:Nat)(pins:List (Addr×Obj))(s:Shared)(σ:St)(H:Hp)(E:Value->Shared->Prop),Inv X pins σ H s->(∀b∈fp,lr X pins H b)->tn i s.heap->J.stop i H->wpAny (model P w) X.A (pyNext (.ref it)) (λr s1=>r=none/\Inv X pins σ H s1) E s
 self:∀(A:Around)(i:Nat)(s:Shared)(Q:Value->Shared->Prop)(E:Value->Shared->Prop),tn i s.heap->Q (.ref it) s->wpAny (model P w) A (pyIter (.ref it)) Q E s
noncomputable abbrev TI:=St->Hp->(It->Hp->Prop)->Prop
noncomputable def PIE(X:Cx)(pins:List (Addr×Obj))(σ:St)(tg:Expr)(R:It->Hp->Prop)(a:Value)(s2:Shared):Prop:=∃(it:Addr)(fp:List Addr)(tn:Nat->Heap->Prop)(J:It)(H':Hp),a= .ref it/\Inv X pins σ H' s2/\Turn X.prog X.w X.K tg J fp it tn/\tn 0 s2.heap/\(∀b∈fp,lr X pins H' b)/\R J H'
noncomputable def PI(X:Cx)(tg iter:Expr)(a:TI):Prop:=∀(pins:List (Addr×Obj))(s:Shared)(σ:St)(H:Hp)(R:It->Hp->Prop),Inv X pins σ H s->a σ H R->wpAny (model X.prog X.w) X.A (eval iter X.env) (λv s1=>wpAny (model X.prog X.w) X.A (pyIter v) (PIE X pins σ tg R) X.xe s1) X.xe s
theorem Bo{M:Model}{A:Around}{E:Value->Shared->Prop}{s:Shared}{tg:Expr}{it:Addr}{u:Value}{o:Obj}{n:String}{vs:Array Value}{Q:Unit->Shared->Prop}(b:s.heap.get? it=some o)(hc:o.cls= .type n)(hd:o.data= .fields vs)(hn:["enumerate","zip","dict_itemiterator","dict_reverseitemiterator","odict_iterator","itertools.zip_longest","itertools.pairwise"].contains n=false)(a:Q () s):wpAny M A (letOwnedTupleGo tg (.ref it) u) Q E s:=by unfold letOwnedTupleGo;cases tg<;>first|exact aU a|(cases u<;>first|exact aU a|(refine ao (wpAny_load b ?_);rw[hc,hd];show wpAny M A (if(["enumerate","zip","dict_itemiterator","dict_reverseitemiterator","odict_iterator","itertools.zip_longest","itertools.pairwise"].contains n&&vs[0]?==some (rawInt _))=true then _ else _) Q E s;rw[if_neg (by intro h;rw[hn,Bool.false_and]at h;cases h)];exact aU a))
noncomputable def WZ(K:PySem.W.Frag)(a:Addr):It:=⟨λi H=>∃xs x,bI K H a xs/\xs[i]?=some x,λi H x H'=>H'=H/\∀xs,bI K H a xs->xs[i]?=some x,λi H=>∃xs,bI K H a xs/\xs.length<=i⟩
noncomputable def Itt(K:PySem.W.Frag)(a:Addr):It:=⟨λi H=>∃xs x,bQ K H a xs/\xs[i]?=some x,λi H x H'=>H'=H/\∀xs,bQ K H a xs->xs[i]?=some x,λi H=>∃xs,bQ K H a xs/\xs.length<=i⟩
noncomputable def Xj(lo:Int)(n:Nat):It:=⟨λi _=>i<n,λi H x H'=>H'=H/\x= .int (lo+i),λi _=>n<=i⟩
theorem IC{P:Program}{w:World}{K:PySem.W.Frag}{tg:Expr}(a it:Addr):Turn P w K tg (WZ K a) [it] it (λi h=>h.IsListIter it a i)where
 mem:=by simp
 obj:=λi h st b hb=>by
  have e:b=it:=by simpa using hb
  subst e;obtain⟨o,e,c,d⟩:=st;exact⟨o,e,λv z=>by rw[d]at z;cases z⟩
 keep:=λi h h' st k=>st.at λo e=>k it (by simp) o e;item:=by intro X q hw n hc i pins s σ H E I j st r;subst q hw n;obtain⟨xs,x,hq,t⟩:=r;obtain⟨its,y,p,G⟩:=I.list hq;obtain⟨u,D,J⟩:=y.get t;obtain⟨l,f1,f2,f,m,g⟩:=j it (by simp);refine wpAny_pyNext_list_item st p.isList (x:=u) (by simpa using D) λh' A sb=>?_;have B:Inv X pins σ H {s with heap:=h'}:=I.turned (t':=s.toks) (λb o hb e=>(sb.2 b hb).trans e) l f1 f m g;obtain⟨o,e,c,d⟩:=id A;exact⟨u,rfl,Bo (s:={s with heap:=h'}) e c d (by decide) ⟨x,H,B,J,⟨rfl,λys F=>by rw[I.i8 F hq];exact t⟩,A,λb hb=>(j b hb).1⟩⟩
 done:=by intro X q hw n hc i pins s σ H E I j st r;subst q hw n;obtain⟨xs,hq,t⟩:=r;obtain⟨its,y,p,G⟩:=I.list hq;obtain⟨l,f1,f2,f,m,g⟩:=j it (by simp);have hl:=y.length;exact jW (I.hb hc) (I.MO hc f g) st p.isList (by simp;lia) λh' C=>⟨rfl,I.turned (t':=s.toks) (λb o hb e=>C b o hb e) l f1 f m g⟩
 self:=λ_ _ _ _ _ st h=>wpAny_pyIter_listiter st h
theorem DT{P:Program}{w:World}{K:PySem.W.Frag}{tg:Expr}(a it:Addr):Turn P w K tg (Itt K a) [it] it (λi h=>h.IsTupleIter it a i)where
 mem:=by simp
 obj:=λi h st b hb=>by
  have e:b=it:=by simpa using hb
  subst e;obtain⟨o,e,c,d⟩:=st;exact⟨o,e,λv z=>by rw[d]at z;cases z⟩
 keep:=λi h h' st k=>st.at λo e=>k it (by simp) o e;item:=by intro X q hw n hc i pins s σ H E I j st r;subst q hw n;obtain⟨xs,x,hq,t⟩:=r;obtain⟨its,y,p,G⟩:=I.tuple hq;obtain⟨u,D,J⟩:=y.get t;obtain⟨l,f1,f2,f,m,g⟩:=j it (by simp);refine wpAny_pyNext_tuple_item st (show s.heap.IsTuple a its.toArray from p) (x:=u) (by simpa using D) λh' A sb=>?_;have B:Inv X pins σ H {s with heap:=h'}:=I.turned (t':=s.toks) (λb o hb e=>(sb.2 b hb).trans e) l f1 f m g;obtain⟨o,e,c,d⟩:=id A;exact⟨u,rfl,Bo (s:={s with heap:=h'}) e c d (by decide) ⟨x,H,B,J,⟨rfl,λys F=>by rw[I.JR F hq];exact t⟩,A,λb hb=>(j b hb).1⟩⟩
 done:=by intro X q hw n hc i pins s σ H E I j st r;subst q hw n;obtain⟨xs,hq,t⟩:=r;obtain⟨its,y,p,G⟩:=I.tuple hq;obtain⟨l,f1,f2,f,m,g⟩:=j it (by simp);have hl:=y.length;exact next_tuple_end (I.hb hc) (I.MO hc f g) st (show s.heap.IsTuple a its.toArray from p) (by simp;lia) λh' C=>⟨rfl,I.turned (t':=s.toks) (λb o hb e=>C b o hb e) l f1 f m g⟩
 self:=λ_ _ _ _ _ st h=>wpAny_pyIter_tupleiter st h
theorem Fj{P:Program}{w:World}{K:PySem.W.Frag}{tg:Expr}(it:Addr)(lo:Int)(n:Nat):Turn P w K tg (Xj lo n) [it] it (λi h=>IsRangeIter h it (lo+(i:Nat)*1) ((n:Int)-(i:Nat)) 1)where
 mem:=by simp
 obj:=λi h st b hb=>by
  have e:b=it:=by simpa using hb
  subst e;exact⟨_,st,λv z=>by have y:Data.fields _=Data.cell v:=z;cases y⟩
 keep:=λi h h' st k=>k it (by simp) _ st;item:=by intro X l hw j hc i pins s σ H E I a st m;subst l hw j;obtain⟨c,f1,f2,d,f,g⟩:=a it (by simp);refine D6 m st λv h' tk u p x=>?_;obtain⟨t,rfl⟩:=u;have q:Inv X pins σ H {s with heap:=h',toks:=tk}:=I.turned (λb o hb e=>x b o (by simpa using hb) e) c f1 d f g;refine⟨_,rfl,Bo (s:={s with heap:=h',toks:=tk}) (n:="range_iterator") p rfl rfl (by decide) ⟨.int (lo+i),H,q,⟨t,?_⟩,⟨rfl,rfl⟩,p,λb hb=>(a b hb).1⟩⟩;rw[Int.mul_one]
 done:=by intro X l hw j hc i pins s σ H E I a st m;subst l hw j;obtain⟨c,f1,f2,d,f,g⟩:=a it (by simp);exact uh (I.hb hc) st (by have :n<=i:=m;lia) λh' r=>⟨rfl,I.turned (t':=s.toks) (λb o hb e=>r b o hb e) c f1 d f g⟩
 self:=λ_ _ _ _ _ st h=>wpAny_pyIter_rangeiter st h
section
variable{X:Cx}{tg:Expr}
noncomputable def RK(K:PySem.W.Frag)(c:TE):TI:=λσ H R=>c σ H λx b=>∃a,x= .ref a/\(∃xs,bI K b a xs)/\R (WZ K a) b
noncomputable def Yl(K:PySem.W.Frag)(c:TE):TI:=λσ H R=>c σ H λx b=>∃a,x= .ref a/\(∃xs,bQ K b a xs)/\R (Itt K a) b
theorem sA{l:Expr}{d:TE}(hl:PE X l d):PI X tg l (RK X.K d):=by
 intro pins s σ H R I h;refine bH (hl pins s σ H _ I h) λv s1 j=>?_;obtain⟨x,f,c,i,g⟩:=j;obtain⟨a,e,⟨xs,hq⟩,q⟩:=g;subst e;cases i;obtain⟨its,m,p,k⟩:=c.list hq;refine wpAny_pyIter_list p.isList ?_;refine⟨s1.heap.objs.size,[s1.heap.objs.size],_,_,f,rfl,c.kept (t':=s1.toks) λb o e=>bC _ e,IC a _,⟨_,eI _ rfl,rfl,rfl⟩,λb hb=>?_,q⟩;have e:b=s1.heap.objs.size:=by simpa using hb
 subst e;exact c.EV (bf _) (c.bK.fresh (bf _))
theorem tL{l:Expr}{d:TE}(hl:PE X l d):PI X tg l (Yl X.K d):=by
 intro pins s σ H R I h;refine bH (hl pins s σ H _ I h) λv s1 j=>?_;obtain⟨x,f,c,i,g⟩:=j;obtain⟨a,e,⟨xs,hq⟩,q⟩:=g;subst e;cases i;obtain⟨its,m,p,k⟩:=c.tuple hq;refine wpAny_pyIter_tuple (show s1.heap.IsTuple a its.toArray from p) ?_;refine⟨s1.heap.objs.size,[s1.heap.objs.size],_,_,f,rfl,c.kept (t':=s1.toks) λb o e=>bC _ e,DT a _,⟨_,eI _ rfl,rfl,rfl⟩,λb hb=>?_,q⟩;have e:b=s1.heap.objs.size:=by simpa using hb
 subst e;exact c.EV (bf _) (c.bK.fresh (bf _))
theorem LD{pins:List (Addr×Obj)}{σ:St}{H:Hp}{s:Shared}{R:It->Hp->Prop}{E:Value->Shared->Prop}{lo hi:Int}{t u v:Tok}{tk:Nat}(I:Inv X pins σ H s)(h1:-(2^62)<=lo)(h2:lo<2^62)(h3:-(2^62)<=hi)(h4:hi<2^62)(q:R (Xj lo (hi-lo).toNat) H):wpAny (model X.prog X.w) X.A (pyIter (.ref s.heap.objs.size)) (PIE X pins σ tg R) E {s with heap:=s.heap.push {cls:= .type "range",data:= .fields #[.int lo t, .int hi u, .int 1 v]},toks:=tk}:=by
 refine wpAny_pyIter_range (IsRange.new ..) (small_one h1 h2 h3 h4) ?_;have a:Inv X pins σ H {s with heap:=s.heap.push {cls:= .type "range",data:= .fields #[.int lo t, .int hi u, .int 1 v]},toks:=tk}:=I.kept λb o e=>bC _ e;refine⟨(s.heap.push {cls:= .type "range",data:= .fields #[.int lo t, .int hi u, .int 1 v]}).objs.size,[(s.heap.push {cls:= .type "range",data:= .fields #[.int lo t, .int hi u, .int 1 v]}).objs.size],_,_,H,rfl,a.kept (t':=tk) λb o e=>bC _ e,Fj _ lo (hi-lo).toNat,?_,λb hb=>?_,q⟩
 ·have e1:lo+((0:Nat):Int)*1=lo:=by simp
  have e2:(((hi-lo).toNat:Nat):Int)-((0:Nat):Int)=Builtin.Range.rangeSize lo hi 1:=by rw[rangeSize_one];split<;>lia
  show IsRangeIter _ _ (lo+((0:Nat):Int)*1) ((((hi-lo).toNat:Nat):Int)-((0:Nat):Int)) 1;rw[e1,e2];exact eI _ rfl
 ·have e:b=(s.heap.push {cls:= .type "range",data:= .fields #[.int lo t, .int hi u, .int 1 v]}).objs.size:=by simpa using hb
  subst e;exact a.EV (bf _) (a.bK.fresh (bf _))
noncomputable def aa7(b:TA):TI:=λσ H R=>b σ H λvs a=>∃j:Int,vs=[.int j]/\-(2^62)<=j/\j<2^62/\R (Xj 0 j.toNat) a
theorem gJ{a:Expr}{d:TA}{p c:Pos}(g:Gl X "range")(hm:X.mg "range"=none)(ha:PA X [a] d)(i:starEach [a] X.env=[(false,eval a X.env)]:=by rfl):PI X tg (.Call (.Name "range" p) [a] [] c) (aa7 d):=by intro pins s σ H R I h;refine Call_ (iR I g hm boot_range (PyProof.Rows.callWith_type1 (bH (ha c pins s σ H _ I h) λus s1 m=>?_) i rfl));obtain⟨vs,n,f,l,b⟩:=m;obtain⟨j,e,b,k,q⟩:=b;subst e;cases l with|cons r rr=>cases rr;obtain⟨t,rfl⟩:=r;exact call_range_1 (LD f (by lia) (by lia) b k (by simpa using q))
noncomputable def acy(e:TI)(g:TG)(tb:TS):TS:=λD σ H=>e σ H λJ c=>∃W:Nat->Nat->St->Hp->Prop,(∃m,W 0 m σ c)/\∀i m σ H,W i m σ H->(J.stop i H/\D.nx σ H)\/(J.go i H/\∃N:St->Hp->Prop,(∀b H',N b H'->∃a,a<m/\W (i+1) a b H')/\∀x H',J.vB i H x H'->g x σ H' λf d=>tb {D with nx:=N,ct:=N,bk:=D.nx} f d)
noncomputable def nJ(fp:List Addr)(h:Heap):List (Addr×Obj):=fp.filterMap λb=>(h.get? b).map λo=>(b,o)
theorem eD{fp:List Addr}{h:Heap}{b:Addr}{o:Obj}(hb:b∈fp)(e:h.get? b=some o):(b,o)∈nJ fp h:=List.mem_filterMap.mpr ⟨b,hb,by rw[e];rfl⟩
theorem Jt{fp:List Addr}{h:Heap}{p:Addr×Obj}(a:p∈nJ fp h):p.1∈fp/\h.get? p.1=some p.2:=by obtain⟨b,hb,e⟩:=List.mem_filterMap.mp a;cases q:h.get? b with|none=>rw[q]at e;cases e|some o=>rw[q]at e;have e':(b,o)=p:=Option.some.inj e;subst e';exact⟨hb,q⟩
theorem Inv.pinned{pins:List (Addr×Obj)}{σ:St}{H:Hp}{s:Shared}{fp:List Addr}(I:Inv X pins σ H s)(c:∀b∈fp,lr X pins H b)(f:∀b∈fp,∃o,s.heap.get? b=some o/\∀v,o.data≠ .cell v):Inv X (pins++nJ fp s.heap) σ H s:=I.Ir λp g=>(List.mem_append.mp g).elim (λz=>I.pin p (lZ _ z)) λz=>by obtain⟨hb,e⟩:=Jt z;obtain⟨a,f1,f2,_⟩:=c p.1 hb;obtain⟨o,e',d⟩:=f p.1 hb;rw[e]at e';cases e';exact⟨e,a,f1,f2,d⟩
theorem Inv.jl{pins pl:List (Addr×Obj)}{σ:St}{H:Hp}{s:Shared}(I:Inv X (pins++pl) σ H s):Inv X pins σ H s:=I.Ir λp a=>I.pin p (lZ _ (A1 _ a))
theorem gD{iter:Expr}{body:List Stmt}{O:TI}{g:TG}{tb:TS}{pos:Pos}(p:PassesOwn (model X.prog X.w) X.A X.env X.xe)(hc:X.calm=true)(hi:PI X tg iter O)(hg:PG X tg g)(hb:gR X body tb)(hs:∀x,foldedSetIterable iter X.env x=pure x:=by intro _;rfl):PS X (.For tg iter body [] pos) (acy O g tb):=by
 intro pins s σ H D I h;refine wpAny_For (bH (hi pins s σ H _ I h) λv s1 h1=>bH h1 λitv s2 h2=>?_) hs;obtain⟨it,fp,tn,J,P,e,R,T,VN,f2,W,⟨m0,w0⟩,turn⟩:=h2;subst e;have C:∀{H':Hp},(∀b∈fp,H' b=none)->∀b∈fp,lr X pins H' b:=λhn b hb=>⟨hn b hb,(f2 b hb).2⟩;refine codeAny_forLoop_any (λn s'=>∃i t H',Inv X pins t H' s'/\tn i s'.heap/\(∀b∈fp,H' b=none)/\W i n t H') ?_ m0 ⟨0,σ,P,R,VN,λb hb=>(f2 b hb).1,w0⟩;rintro n K⟨i,w,y,F,M,G,w3⟩;rcases turn i n w y w3 with⟨stop,qn⟩|⟨go,N,hN,step⟩;·refine wpAny_passesOwn p (bH (T.done X rfl rfl rfl hc i pins K w y X.xe F (C G) M stop) λr s4 l=>?_);obtain⟨z,S⟩:=l;subst z;exact wpAny_execs_nil ⟨w,y,S,qn⟩
 ·refine wpAny_passesOwn p (bH (T.item X rfl rfl rfl hc i pins K w y X.xe F (C G) M go) λr s4 l=>?_);obtain⟨u,z,h4⟩:=l;subst z;refine wpAny_passesOwn p (bH h4 λ_ L l=>?_);obtain⟨x,E,U,r5,y5,B,Z⟩:=l;have V:=U.pinned (C Z) (T.obj _ _ B);refine wpAny_passesOwn p (bH (hg _ L w E x u _ V r5 (step x E y5)) λ_ s6 l=>?_);obtain⟨σ6,Q,Y,q6⟩:=l;refine wpAny_passesOwn p (bH (hb _ s6 σ6 Q _ Y q6) λf A k=>?_);have again:∀{j:St}{a:Hp},Inv X (pins++nJ fp L.heap) j a A->N j a->∃m,m<n/\∃i t H',Inv X pins t H' A/\tn i A.heap/\(∀b∈fp,H' b=none)/\W i m t H':=λ{j a}c q=>by obtain⟨m',hm,w7⟩:=hN j a q;refine⟨m',hm,i+1,j,a,c.jl,T.keep _ _ _ B λb hb o e=>(c.pin (b,o) (lZ _ (lZ _ (eD hb e)))).1,λb hb=>?_,w7⟩;obtain⟨o,e,d⟩:=T.obj _ _ B b hb;exact(c.pin (b,o) (lZ _ (lZ _ (eD hb e)))).2.1
  cases f with|next=>obtain⟨j,a,c,q⟩:=k;exact again c q|cont=>obtain⟨j,a,c,q⟩:=k;exact again c q|brk=>obtain⟨j,a,c,k⟩:=k;exact⟨j,a,c.jl,k⟩|ret v=>obtain⟨x7,j,a,c,r7,k⟩:=k;exact⟨x7,j,a,c.jl,r7,k⟩
end
theorem L_{K:PySem.W.Frag}{a:Addr}{xs:List V}{g:TG}{tb:TS}{D:Ends}{σ:St}{H:Hp}(Pv:Nat->St->Hp->Prop)(j:Pv 0 σ H)(hl:∀i σ H,i<=xs.length->Pv i σ H->bI K H a xs)(k:∀i x σ H,xs[i]?=some x->Pv i σ H->g x σ H λd b=>tb {D with nx:=Pv (i+1),ct:=Pv (i+1),bk:=D.nx} d b)(hd:∀σ H,Pv xs.length σ H->D.nx σ H):∃W:Nat->Nat->St->Hp->Prop,(∃m,W 0 m σ H)/\∀i m σ H,W i m σ H->((WZ K a).stop i H/\D.nx σ H)\/((WZ K a).go i H/\∃N:St->Hp->Prop,(∀c H',N c H'->∃h,h<m/\W (i+1) h c H')/\∀x H',(WZ K a).vB i H x H'->g x σ H' λd b=>tb {D with nx:=N,ct:=N,bk:=D.nx} d b):=by
 refine⟨λi m σ H=>m=xs.length-i/\i<=xs.length/\Pv i σ H,⟨xs.length,by simp,dA _,j⟩,?_⟩;rintro i m σ H⟨rfl,hi,p⟩;have q:=hl i σ H hi p;by_cases f:i<xs.length;·refine .inr ⟨⟨xs,xs[i],q,by simp[f]⟩,Pv (i+1),λc H' l=>⟨xs.length-(i+1),by lia,rfl,f,l⟩,λx H' y=>?_⟩;obtain⟨e,y⟩:=y;subst e;exact k i x σ _ (y xs q) p
 ·have e:i=xs.length:=by lia
  subst e;exact .inl ⟨⟨xs,q,bf _⟩,hd σ H p⟩
theorem JJ{lo:Int}{n:Nat}{g:TG}{tb:TS}{D:Ends}{σ:St}{H:Hp}(Pv:Nat->St->Hp->Prop)(h:Pv 0 σ H)(j:∀i σ H,i<n->Pv i σ H->g (.int (lo+i)) σ H λd a=>tb {D with nx:=Pv (i+1),ct:=Pv (i+1),bk:=D.nx} d a)(hd:∀σ H,Pv n σ H->D.nx σ H):∃W:Nat->Nat->St->Hp->Prop,(∃m,W 0 m σ H)/\∀i m σ H,W i m σ H->((Xj lo n).stop i H/\D.nx σ H)\/((Xj lo n).go i H/\∃N:St->Hp->Prop,(∀c H',N c H'->∃f,f<m/\W (i+1) f c H')/\∀x H',(Xj lo n).vB i H x H'->g x σ H' λd a=>tb {D with nx:=N,ct:=N,bk:=D.nx} d a):=by
 refine⟨λi m σ H=>m=n-i/\i<=n/\Pv i σ H,⟨n,by simp,dA _,h⟩,?_⟩;rintro i m σ H⟨rfl,hi,p⟩;by_cases b:i<n;·refine .inr ⟨b,Pv (i+1),λc H' k=>⟨n-(i+1),by lia,rfl,b,k⟩,λx H' y=>?_⟩;obtain⟨e,y⟩:=y;subst e y;exact j i σ _ b p
 ·have e:i=n:=by lia
  subst e;exact .inl ⟨bf _,hd σ H p⟩
noncomputable abbrev R2:=V->V->Hp->VK->Prop
noncomputable def mf(X:Cx)(f:Value->Value->Sem Value)(r:R2):Prop:=∀(pins:List (Addr×Obj))(s:Shared)(σ:St)(H:Hp)(x y:V)(v u:Value)(Q:VK),Inv X pins σ H s->RelV x v->RelV y u->r x y H Q->wpAny (model X.prog X.w) X.A (f v u) (EP X pins σ Q) X.xe s
noncomputable def UnR(X:Cx)(f:Value->Sem Value)(r:V->Hp->VK->Prop):Prop:=∀(pins:List (Addr×Obj))(s:Shared)(σ:St)(H:Hp)(x:V)(v:Value)(Q:VK),Inv X pins σ H s->RelV x v->r x H Q->wpAny (model X.prog X.w) X.A (f v) (EP X pins σ Q) X.xe s
noncomputable def iF(X:Cx)(f:Value)(r:List V->Hp->VK->Prop):Prop:=∀(pins:List (Addr×Obj))(s:Shared)(σ:St)(H:Hp)(xs:List V)(us:List Value)(Q:VK),Inv X pins σ H s->Vals xs us->r xs H Q->wpAny (model X.prog X.w) X.A (call f us) (EP X pins σ Q) X.xe s
noncomputable def Xm(r:R2)(c tb:TE):TE:=λσ H Q=>c σ H λx a=>tb σ a λy b=>r x y b Q
noncomputable def tUn(r:V->Hp->VK->Prop)(b:TE):TE:=λσ H Q=>b σ H λx a=>r x a Q
noncomputable def rI(C:Int->Int->Prop)(g:Int->Int->V):R2:=λx y H Q=>∃i j,x= .int i/\y= .int j/\C i j/\Q (g i j) H
noncomputable def Sk(g:Int->Int->V):R2:=λx y H Q=>∃i j,x= .int i/\y= .int j/\Q (g i j) H
noncomputable def rU(g:Int->V):V->Hp->VK->Prop:=λx H Q=>∃i,x= .int i/\Q (g i) H
section
variable{X:Cx}{a b c:Expr}{ta tb tc:TE}{pos:Pos}
theorem Ws(ha:PE X a ta)(hb:PE X b tb){pins:List (Addr×Obj)}{s:Shared}{σ:St}{H:Hp}{R:V->V->Hp->Prop}(I:Inv X pins σ H s)(h:ta σ H λx e=>tb σ e λy d=>R x y d){Q:Value->Shared->Prop}{f:Value->Value->Sem Value}(k:∀v u s2 x y d,Inv X pins σ d s2->RelV x v->RelV y u->R x y d->wpAny (model X.prog X.w) X.A (f v u) Q X.xe s2):wpAny (model X.prog X.w) X.A (eval a X.env) (λv p=>wpAny (model X.prog X.w) X.A (eval b X.env) (λu q=>wpAny (model X.prog X.w) X.A (f v u) Q X.xe q) X.xe p) X.xe s:=by refine bH (ha pins s σ H _ I h) λv s1 g=>?_;obtain⟨x,e,i,n,l⟩:=g;refine bH (hb pins s1 σ e _ i l) λu s2 g=>?_;obtain⟨y,d,j,o,m⟩:=g;exact k v u s2 x y d j n o m
theorem cR{op:Operator}{r:R2}(f:mf X (binaryOp op) r)(ha:PE X a ta)(hb:PE X b tb):PE X (.BinOp a op b pos) (Xm r ta tb):=by intro pins s σ H Q I h;exact wpAny_BinOp (Ws ha hb I h λv u s2 x y d e g i q=>f pins s2 σ d x y v u Q e g i q)
theorem Sn{op:UnaryOp}{r:V->Hp->VK->Prop}(f:UnR X (unaryOp op) r)(ha:PE X a ta):PE X (.UnaryOp op a pos) (tUn r ta):=by intro pins s σ H Q I h;exact UnaryOp_ (bH (ha pins s σ H _ I h) λv s1⟨x,d,e,i,g⟩=>f pins s1 σ d x v Q e i g)
theorem opI{f:Value->Value->Sem Value}{C:Int->Int->Prop}{g:Int->Int->Int}(rule:∀(i j:Int)(t u:Tok)(s:Shared)(Q:Value->Shared->Prop)(E:Value->Shared->Prop),C i j->Q (.int (g i j) s.toks) {s with toks:=s.toks+1}->wpAny (model X.prog X.w) X.A (f (.int i t) (.int j u)) Q E s):mf X f (rI C λi j=> .int (g i j)):=by intro pins s σ H x y v u Q I d e h;obtain⟨i,j,rfl,rfl,hc,q⟩:=h;obtain⟨t,rfl⟩:=d;obtain⟨t',rfl⟩:=e;exact rule i j t t' s _ _ hc ⟨.int (g i j),H,I.tok _,⟨_,rfl⟩,q⟩
theorem Y4{f:Value->Value->Sem Value}{g:Int->Int->Int}(rule:∀(i j:Int)(t u:Tok)(s:Shared)(Q:Value->Shared->Prop)(E:Value->Shared->Prop),Q (.int (g i j) s.toks) {s with toks:=s.toks+1}->wpAny (model X.prog X.w) X.A (f (.int i t) (.int j u)) Q E s):mf X f (Sk λi j=> .int (g i j)):=by intro pins s σ H x y v u Q I d e h;obtain⟨i,j,rfl,rfl,q⟩:=h;obtain⟨t,rfl⟩:=d;obtain⟨t',rfl⟩:=e;exact rule i j t t' s _ _ ⟨.int (g i j),H,I.tok _,⟨_,rfl⟩,q⟩
theorem QI{f:Value->Value->Sem Value}{g:Int->Int->Bool}(rule:∀(i j:Int)(t u:Tok)(s:Shared)(Q:Value->Shared->Prop)(E:Value->Shared->Prop),Q (.bool (g i j)) s->wpAny (model X.prog X.w) X.A (f (.int i t) (.int j u)) Q E s):mf X f (Sk λi j=> .bl (g i j)):=by intro pins s σ H x y v u Q I d e h;obtain⟨i,j,rfl,rfl,q⟩:=h;obtain⟨t,rfl⟩:=d;obtain⟨t',rfl⟩:=e;exact rule i j t t' s _ _ ⟨.bl (g i j),H,I,rfl,q⟩
def acA(i j:Int):Prop:=0<j/\j<1073741824
def UH(i j:Int):Prop:=(-(2^64)<i/\i<2^64)\/(-(2^64)<j/\j<2^64)
theorem UH.ok{i j:Int}(h:UH i j):IntMulOk i j:=by
 rcases h with⟨h1,h2⟩|⟨h1,h2⟩;·exact .of_left (intBits_le_64 h1 h2)
 ·exact .of_right (intBits_le_64 h1 h2)
theorem gA:mf X (binaryOp .Add) (Sk λi j=> .int (i+j)):=Y4 λ_ _ _ _ _ _ _ q=>add_int q
theorem DW:mf X (binaryOp .Sub) (Sk λi j=> .int (i-j)):=Y4 λ_ _ _ _ _ _ _ q=>sub_int q
theorem VE:mf X (binaryOp .Mult) (rI UH λi j=> .int (i*j)):=opI λ_ _ _ _ _ _ _ hc q=>mul_int q hc.ok
theorem Pj:mf X (binaryOp .FloorDiv) (rI acA λi j=> .int (i/j)):=opI λi j _ _ _ _ _ hc q=>by have h1:(0:Int)<j:=hc.1;have h2:j<1073741824:=hc.2;exact floordiv_int (by lia) (by rw[Int.fdiv_eq_ediv_of_nonneg i (by lia)];exact q) (.inl (PyProof.noPylong_small (by lia)))
theorem uj:mf X (binaryOp .Mod) (rI (λ_ j=>0<j) λi j=> .int (i%j)):=opI λi j _ _ _ _ _ hc q=>by have h1:(0:Int)<j:=hc;exact mod_int' (by lia) (by rw[Int.fmod_eq_emod_of_nonneg i (by lia)];exact q)
theorem unI{f:Value->Sem Value}{g:Int->Int}(rule:∀(i:Int)(t:Tok)(s:Shared)(Q:Value->Shared->Prop)(E:Value->Shared->Prop),Q (.int (g i) s.toks) {s with toks:=s.toks+1}->wpAny (model X.prog X.w) X.A (f (.int i t)) Q E s):UnR X f (rU λi=> .int (g i)):=by intro pins s σ H x v Q I d h;obtain⟨i,rfl,q⟩:=h;obtain⟨t,rfl⟩:=d;exact rule i t s _ _ ⟨.int (g i),H,I.tok _,⟨_,rfl⟩,q⟩
theorem Mr:UnR X (unaryOp .USub) (rU λi=> .int (-i)):=unI λ_ _ _ _ _ q=>neg_int q
end
noncomputable def NA:V->V->Bool| .aO, .aO=>true| .aO, .int _=>true| .int _, .aO=>true| .aO, .bl _=>true| .bl _, .aO=>true| .aO, .str _=>true| .str _, .aO=>true| .int _, .int _=>true| .bl _, .bl _=>true| .str _, .str _=>true| .Iv _, .Iv _=>true| .int _, .str _=>true| .str _, .int _=>true| .bl _, .str _=>true| .str _, .bl _=>true|_,_=>false
noncomputable def rEq:R2:=λx y H Q=>NA x y=true/\Q (.bl (decide (x=y))) H
noncomputable def rNe:R2:=λx y H Q=>NA x y=true/\Q (.bl (!decide (x=y))) H
theorem FK{i j:Int}:decide (V.int i=V.int j)=(i==j):=by rw[Bool.eq_iff_iff];simp
theorem NB{i j:Bool}:decide (V.bl i=V.bl j)=(i==j):=by rw[Bool.eq_iff_iff];simp
theorem Ig{i j:Str}:decide (V.str i=V.str j)=(i==j):=by rw[Bool.eq_iff_iff];simp
theorem Hh{i j:Array UInt8}:decide (V.Iv i=V.Iv j)=(i.toList==j.toList):=by rw[Bool.eq_iff_iff];cases i;cases j;simp
section
variable{X:Cx}{a b c:Expr}{ta tb tc:TE}{pos:Pos}
theorem bo{pins:List (Addr×Obj)}{σ:St}{H:Hp}{s:Shared}{Q:VK}{k d:Bool}(I:Inv X pins σ H s)(q:Q (.bl k) H)(e:k=d):EP X pins σ Q (.bool d) s:=by subst e;exact⟨.bl k,H,I,rfl,q⟩
theorem cx:mf X (compareOp .Eq) rEq:=by
 intro pins s σ H x y v u Q I f d h;obtain⟨e,q⟩:=h;cases x with
  |aO=>cases f;cases y with|aO=>cases d;exact PySem.EqNone.eq_none_none (bo I q (by simp))|bl j=>cases d;exact PySem.EqNone.eq_none_bool (bo I q (by simp))|int j=>obtain⟨t',rfl⟩:=d;exact PySem.EqNone.eq_none_int (bo I q (by simp))|str j=>obtain⟨t',rfl⟩:=d;exact PySem.EqNone.eq_none_str (bo I q (by simp))|_=>exact absurd (show false=true from e) eC
  |bl i=>cases f;cases y with|aO=>cases d;exact PySem.EqNone.eq_bool_none (bo I q (by simp))|bl j=>cases d;exact eq_bool (bo I q NB)|str j=>obtain⟨t',rfl⟩:=d;exact PySem.EqMixed.eq_bool_str (bo I q (by simp))|_=>exact absurd (show false=true from e) eC
  |int i=>obtain⟨t,rfl⟩:=f;cases y with|aO=>cases d;exact PySem.EqNone.eq_int_none (bo I q (by simp))|int j=>obtain⟨t',rfl⟩:=d;exact eq_int (bo I q FK)|str j=>obtain⟨t',rfl⟩:=d;exact PySem.EqMixed.eq_int_str (bo I q (by simp))|_=>exact absurd (show false=true from e) eC
  |str i=>obtain⟨t,rfl⟩:=f;cases y with|aO=>cases d;exact PySem.EqNone.eq_str_none (bo I q (by simp))|bl j=>cases d;exact PySem.EqMixed.eq_str_bool (bo I q (by simp))|int j=>obtain⟨t',rfl⟩:=d;exact PySem.EqMixed.eq_str_int (bo I q (by simp))|str j=>obtain⟨t',rfl⟩:=d;exact eq_str (bo I q Ig)|_=>exact absurd (show false=true from e) eC
  |Iv i=>obtain⟨t,rfl⟩:=f;cases y with|Iv j=>obtain⟨t',rfl⟩:=d;exact PySem.W.eq_bytes (bo I q Hh)|_=>exact absurd (show false=true from e) eC
  |_=>cases y<;>exact absurd (show false=true from e) eC
theorem Gn:mf X (compareOp .NotEq) rNe:=by
 intro pins s σ H x y v u Q I f d h;obtain⟨e,q⟩:=h;cases x with
  |aO=>cases f;cases y with|aO=>cases d;exact PySem.EqNone.ne_none_none (bo I q (by simp))|bl j=>cases d;exact PySem.EqNone.ne_none_bool (bo I q (by simp))|int j=>obtain⟨t',rfl⟩:=d;exact PySem.EqNone.ne_none_int (bo I q (by simp))|str j=>obtain⟨t',rfl⟩:=d;exact PySem.EqNone.ne_none_str (bo I q (by simp))|_=>exact absurd (show false=true from e) eC
  |bl i=>cases f;cases y with|aO=>cases d;exact PySem.EqNone.ne_bool_none (bo I q (by simp))|bl j=>cases d;exact ne_bool (bo I q (congrArg not NB))|str j=>obtain⟨t',rfl⟩:=d;exact PySem.EqMixed.ne_bool_str (bo I q (by simp))|_=>exact absurd (show false=true from e) eC
  |int i=>obtain⟨t,rfl⟩:=f;cases y with|aO=>cases d;exact PySem.EqNone.ne_int_none (bo I q (by simp))|int j=>obtain⟨t',rfl⟩:=d;exact ne_int (bo I q (congrArg not FK))|str j=>obtain⟨t',rfl⟩:=d;exact PySem.EqMixed.ne_int_str (bo I q (by simp))|_=>exact absurd (show false=true from e) eC
  |str i=>obtain⟨t,rfl⟩:=f;cases y with|aO=>cases d;exact PySem.EqNone.ne_str_none (bo I q (by simp))|bl j=>cases d;exact PySem.EqMixed.ne_str_bool (bo I q (by simp))|int j=>obtain⟨t',rfl⟩:=d;exact PySem.EqMixed.ne_str_int (bo I q (by simp))|str j=>obtain⟨t',rfl⟩:=d;exact ne_str (bo I q (congrArg not Ig))|_=>exact absurd (show false=true from e) eC
  |Iv i=>obtain⟨t,rfl⟩:=f;cases y with|Iv j=>obtain⟨t',rfl⟩:=d;exact PySem.W.ne_bytes (bo I q (congrArg not Hh))|_=>exact absurd (show false=true from e) eC
  |_=>cases y<;>exact absurd (show false=true from e) eC
theorem Hs:mf X (compareOp .Lt) (Sk λi j=> .bl (decide (i<j))):=QI λ_ _ _ _ _ _ _ q=>lt_int q
theorem HM:mf X (compareOp .LtE) (Sk λi j=> .bl (decide (i<=j))):=QI λ_ _ _ _ _ _ _ q=>le_int q
theorem oX:mf X (compareOp .Gt) (Sk λi j=> .bl (decide (j<i))):=QI λ_ _ _ _ _ _ _ q=>gt_int q
theorem MD:mf X (compareOp .GtE) (Sk λi j=> .bl (decide (j<=i))):=QI λ_ _ _ _ _ _ _ q=>ge_int q
theorem xt:mf X (compareOp .In) (λx y H Q=>∃i j,x= .str i/\y= .str j/\Q (.bl (!(Builtin.Str.occurrences j i 0 j.length 1).isEmpty)) H):=by intro pins s σ H x y v u Q I d e h;obtain⟨i,j,rfl,rfl,q⟩:=h;obtain⟨t,rfl⟩:=d;obtain⟨t',rfl⟩:=e;exact in_str (bo I q rfl)
theorem Ks:mf X (compareOp .Is) (λx y H Q=>y= .aO/\Q (.bl (decide (x= .aO))) H):=by intro pins s σ H x y v u Q I d e h;obtain⟨rfl,q⟩:=h;cases e;refine is_none_gen (bo I q ?_);cases x<;>first|(cases d;rfl)|(obtain⟨t,rfl⟩:=d;rfl)
theorem qV:mf X (compareOp .IsNot) (λx y H Q=>y= .aO/\Q (.bl (!decide (x= .aO))) H):=by intro pins s σ H x y v u Q I d e h;obtain⟨rfl,q⟩:=h;cases e;refine isnot_none_gen (bo I q ?_);cases x<;>first|(cases d;rfl)|(obtain⟨t,rfl⟩:=d;rfl)
theorem aJ(b:Expr){op:CmpOp}(h:op≠ .In:=by decide)(h2:op≠ .NotIn:=by decide):behindInMarks op b=false:=by
 have e1:(op==CmpOp.In)=false:=by cases op<;>first|rfl|exact absurd rfl h
 have e2:(op==CmpOp.NotIn)=false:=by cases op<;>first|rfl|exact absurd rfl h2
 cases b<;>simp[behindInMarks,e1,e2]
theorem cA{op:CmpOp}{r:R2}(f:mf X (compareOp op) r)(ha:PE X a ta)(hb:PE X b tb)(hm:behindInMarks op b=false):PE X (.Compare a [op] [b] pos) (Xm r ta tb):=by intro pins s σ H Q I h;exact wpAny_Compare1 (Ws ha hb I h λv u s2 x y d e g i q=>f pins s2 σ d x y v u Q e g i q) hm
noncomputable def SO(t:TE):TT:=λσ H Q=>t σ H λx H'=>∃k,x= .bl k/\Q k H'
theorem aG{op:CmpOp}{r:R2}(m:mf X (compareOp op) r)(ha:PE X a ta)(hb:PE X b tb)(hm:behindInMarks op b=false):PT X (.Compare a [op] [b] pos) (SO (Xm r ta tb)):=by intro pins s σ H Q I h;refine wpAny_isTrue_Compare1 (bH (ha pins s σ H _ I h) λv s1⟨x,d,i,q,n⟩=>bH (hb pins s1 σ d _ i n) λu s2⟨y,f,j,t,o⟩=>bH (m pins s2 σ f x y v u _ j q t o) λc A⟨z,g,l,w,k,e,p⟩=>?_) hm;subst e;cases w;exact uH ⟨g,l,p⟩
noncomputable def TZ(r h:R2)(ta tb tc:TE):TE:=λσ H Q=>ta σ H λx e=>tb σ e λy f=>r x y f λz d=>∃k,z= .bl k/\(if k=true then tc σ d λi g=>h y i g Q else Q (.bl false) d)
theorem BJ{op f:CmpOp}{r l:R2}(C:mf X (compareOp op) r)(D:mf X (compareOp f) l)(ha:PE X a ta)(hb:PE X b tb)(hc:PE X c tc)(hm:lastMarks [op,f] [b,c]=false:=by with_unfolding_all rfl):PT X (.Compare a [op,f] [b,c] pos) (SO (TZ r l ta tb tc)):=by intro pins s σ H Q I h;refine isTrue_chain (bH (ha pins s σ H _ I h) λv s1⟨x,n,t,L,F⟩=>test_link (bH (hb pins s1 σ n _ t F) λu s2⟨y,o,w,m,G⟩=>bH (C pins s2 σ o x y v u _ w L m G) λd P⟨z,g,i,M,k,e,j⟩=>?_)) hm;subst e;cases M;refine uH ?_;cases k with|false=>obtain⟨V,e',E⟩:=j;cases e';exact ite_ff ⟨g,i,E⟩|true=>refine ite_tt (test_last (bH (hc pins P σ g _ i j) λS R⟨T,p,A,N,J⟩=>bH (D pins R σ p y T u S _ A m N J) λd' Y U=>?_));obtain⟨Z,q,B,O,W,e2,K⟩:=U;subst e2;cases O;exact uH ⟨q,B,K⟩
theorem uw:(sizeLine:Nat)<2^63:=by rw[sizeLine_eq];decide
theorem vals1{x:V}{us:List Value}(r:Vals [x] us):∃u,us=[u]/\RelV x u:=by cases r with|cons d e=>cases e;exact⟨_,rfl,d⟩
end
structure ED(h:Heap)(x dx C:Addr)(mA:Str->Option Value):Prop where
 obj:h.get? x=some (PySem.W.instObj C dx)
 ns:h.Ns1 dx mA
 ne:dx≠x
theorem Jz{h:Heap}{dx:Addr}{mA:Str->Option Value}(n:h.Ns1 dx mA):∃od,h.get? dx=some od/\∀name,PySem.W.lookIn name od=some (mA name):=by
 obtain⟨o,es,ep,f,hd,c,_,hm⟩:=n;refine⟨o,f,λname=>?_⟩;have e:=hm name;unfold nsFind findBy at e;rw[<-Array.find?_toList]at e;unfold PySem.W.lookIn;rw[hd];dsimp only;split;·rename_i y q;rw[q]at e;exact congrArg some e
 ·rename_i q;rw[q]at e;have a:es.toList.any (·.refKey)=false:=by rw[List.any_eq_false];intro y g;obtain⟨z,t,d⟩:=c y (Array.mem_toList_iff.mp g);simp[DictEntry.refKey,d]
  have b:¬es.toList.any (·.refKey)=true:=by rw[a];exact eC
  rw[if_neg b];exact congrArg some e
theorem ED.look{h:Heap}{x dx C:Addr}{mA:Str->Option Value}(I:ED h x dx C mA):∃od,PySem.W.InstAt h x (PySem.W.instObj C dx) C (some od)/\∀name,PySem.W.lookIn name od=some (mA name):=let⟨od,a,hl⟩:=Jz I.ns;⟨od,⟨I.obj,rfl,rfl,a⟩,hl⟩
section
variable{prog:Program}{w:World}{A:Around}{E:Value->Shared->Prop}{s:Shared}{K:PySem.W.Frag}{x dx C f:Addr}{mA:Str->Option Value}{name:Str}{v:Value}
theorem get_map{expr:Bool}{Q:Value->Shared->Prop}(X:K.In s.heap)(I:ED s.heap x dx C mA)(a:PySem.W.plainGet K C name=true)(hh:PySem.W.hasDictIn K C=true)(ha:PySem.W.findIn K (.ref C) name=some none)(b:mA name=some v)(c:PySem.W.handedIn v=true)(h:Q v {s with toks:=s.toks+1}):wpAny (model prog w) A (getAttr (.ref x) name expr) Q E s:=by obtain⟨od,J,hl⟩:=I.look;exact PySem.W.get_value X J (PySem.W.plainGet_of a).1 (PySem.W.findObj_own hh ha rfl (by rw[hl,b])) c h
theorem Mf{pl:Sem Bool}{Q:Value×List Value->Shared->Prop}(X:K.In s.heap)(I:ED s.heap x dx C mA)(a:PySem.W.plainGet K C name=true)(b:PySem.W.findIn K (.ref C) name=some (some (.ref f)))(ht:PySem.W.isFn K (.ref f)=true)(c:mA name=none)(h:Q (.ref f,[.ref x]) s):wpAny (model prog w) A (getMethod (.ref x) name pl) Q E s:=by obtain⟨od,J,hl⟩:=I.look;exact PySem.W.method_fn X J (PySem.W.plainGet_of a).1 (PySem.W.plainGet_of a).2 b (beq_iff_eq.mp ht) (by show(PySem.W.lookIn name od).map (·.isSome)=some false;rw[hl,c];rfl) h
theorem PU{ns:List Str}{Q:Unit->Shared->Prop}(X:K.In s.heap)(I:ED s.heap x dx C mA)(k:PySem.W.findIn K (.ref C) "__setattr__"=some (some (.builtin "object.__setattr__")))(j:PySem.W.plainOver K C=true)(ht:PySem.W.takerIn K C name=some none)(hh:PySem.W.hasDictIn K C=true)(hw:PySem.Within mA ns)(hsz:ns.length<=sizeLine)(h:∀h',ED h' x dx C (λy=>if y=name then some v else mA y)->Heap.SameBut dx s.heap h'->Q () {s with heap:=h',toks:=s.toks+2}):wpAny (model prog w) A (setAttr (.ref x) name v) Q E s:=by obtain⟨od,J,hl⟩:=I.look;refine PySem.W.set_plain X J k (PySem.W.osa_open (s:={s with toks:=s.toks+1}) (r:=none) X J j ht λb=>?_);obtain⟨cd,hc,g⟩:=PySem.W.any_some hh;have l:s.heap.get? x=some ⟨.ref C,some dx, .plain,#[]⟩:=I.obj;refine ao (aU (ao (ao (wpAny_loadPart l (ao (PySem.W.Looks.here (s:={s with toks:=s.toks+1}) (PySem.W.looks_clsIn X hc) ?_))))));rw[g];refine aU (a:=some dx) (ao (aU (ao ?_)));refine wpAny_nsSet1 (s:={s with toks:=s.toks+1}) I.ns λh' c d=>?_;obtain⟨o,n,m,i,Je,e⟩:=c.count (PySem.Within.cons name v hw);refine ao (wpAny_lookBehind i (by rw[Je];exact pastItsLine_dict (cq e (by rw[dY];lia))) ?_);exact aU (h _ ⟨(d.2 _ (Ne.symm I.ne)).trans I.obj,c,I.ne⟩ d)
theorem K1{R:Result->Shared->Prop}{vs:List Value}{a:List (Str×Value)}(X:K.In s.heap)(hm:PySem.W.makesIn K C=true)(hi:PySem.W.findIn K (.ref C) "__init__"=some (some (.ref f)))(b:PySem.W.typeIn K (.ref f)=some (.type "function"))(h:codeAny (model prog w) (A.under (.builtin "type.__call__" ⟨.ref C::vs,a⟩)) (.call (.ref f) ⟨.ref (s.heap.objs.size+1)::vs,a⟩) (PySem.W.InitBack (s.heap.objs.size+1) R) {s with heap:=(s.heap.push PySem.W.emptyDict).push (PySem.W.instObj C s.heap.objs.size)}):codeAny (model prog w) A (.call (.ref C) ⟨vs,a⟩) R s:=by obtain⟨hh,g,d,t,os⟩:=s;exact PySem.W.make_core (PySem.W.makes_of X hm) (PySem.W.looks_findIn X hi) (λself=>PySem.W.bind_fn X self b) (.inl rfl) h
end
noncomputable def jT(f:Str)(v:V):List (Str×V)->List (Str×V)|[]=>[(f,v)]|(g,x)::r=>if g=f then(g,v)::r else(g,x)::jT f v r
theorem oP(f g:Str)(v:V):∀fs:List (Str×V),(jT f v fs).lookup g=if g=f then some v else fs.lookup g
 |[]=>by
  show List.lookup g [(f,v)]=_;by_cases h:g=f;·have hb:(g==f)=true:=beq_iff_eq.mpr h;simp only[List.lookup,hb,if_pos h]
  ·have hb:(g==f)=false:=beq_eq_false_iff_ne.mpr h;simp only[List.lookup,hb,if_neg h]
 |(k,x)::r=>by
  have b:=oP f g v r;rw[show jT f v ((k,x)::r)=(if k=f then(k,v)::r else(k,x)::jT f v r)from rfl];by_cases a:k=f
  ·rw[if_pos a];by_cases h:g=k;·have hb:(g==k)=true:=beq_iff_eq.mpr h;simp only[List.lookup,hb,if_pos (h.trans a)]
   ·have hb:(g==k)=false:=beq_eq_false_iff_ne.mpr h;simp only[List.lookup,hb,if_neg (λe:g=f=>h (e.trans a.symm))]
  ·rw[if_neg a];by_cases h:g=k;·have hb:(g==k)=true:=beq_iff_eq.mpr h;simp only[List.lookup,hb,if_neg (λe:g=f=>a (h.symm.trans e))]
   ·have hb:(g==k)=false:=beq_eq_false_iff_ne.mpr h;simp only[List.lookup,hb];exact b
theorem nP(f:Str)(v:V):∀fs:List (Str×V),f∈(jT f v fs).map (·.1)/\∀g,g∈fs.map (·.1)->g∈(jT f v fs).map (·.1)
 |[]=>⟨by simp[jT],λg h=>by simp at h⟩
 |(k,x)::r=>by
  obtain⟨i1,i2⟩:=nP f v r;rw[show jT f v ((k,x)::r)=(if k=f then(k,v)::r else(k,x)::jT f v r)from rfl];by_cases a:k=f;·rw[if_pos a];subst a;exact⟨by simp,λg h=>by simpa using h⟩
  ·rw[if_neg a];refine⟨?_,λg h=>?_⟩;·rw[dQ];exact cF _ i1
   ·rw[dQ]at h⊢;rcases List.mem_cons.mp h with e|e;·exact List.mem_cons.mpr (.inl e)
    ·exact cF _ (i2 g e)
theorem nY(f:Str)(v:V):∀fs:List (Str×V),(jT f v fs).length<=fs.length+1
 |[]=>by simp[jT]
 |(k,x)::r=>by
  have b:=nY f v r;rw[show jT f v ((k,x)::r)=(if k=f then(k,v)::r else(k,x)::jT f v r)from rfl];by_cases a:k=f;·rw[if_pos a,dY,dY];lia
  ·rw[if_neg a,dY,dY];lia
theorem jU.some_of{v:V}{o:Option Value}(r:jU (some v) o):∃u,o=some u/\RelV v u:=by cases o with|none=>exact(show False from r).elim|some u=>exact⟨u,rfl,r⟩
theorem jU.none_of{o:Option Value}(r:jU none o):o=none:=by cases o with|none=>rfl|some u=>exact(show False from r).elim
theorem Iy{v:V}{u:Value}(r:RelV v u):PySem.W.handedIn u=true:=by cases v with|aO=>cases(show u=Value.none from r);rfl|bl b=>cases(show u=Value.bool b from r);rfl|int i=>obtain⟨t,e⟩:=(show∃t,u=Value.int i t from r);cases e;rfl|str x=>obtain⟨t,e⟩:=(show∃t,u=Value.str x t from r);cases e;rfl|Iv b=>obtain⟨t,e⟩:=(show∃t,u=Value.bytes b t from r);cases e;rfl|S5 b=>obtain⟨t,e⟩:=(show∃t,u=Value.float b t from r);cases e;rfl|ref a=>cases(show u=Value.ref a from r);rfl|ty n=>cases(show u=Value.type n from r);rfl
section
variable{P:Program}{w:World}{H H':Hp}{h h':Heap}{a C dx:Addr}{fs fs':List (Str×V)}
theorem sr(bK:iK P w H h)(e:H a=some (.ins C dx fs)):∃mA,ED h a dx C mA/\(∀f,jU (fs.lookup f) (mA f))/\PySem.Within mA (fs.map (·.1))/\fs.length<=1000/\H dx=some (.own a):=by obtain⟨d,z,ne,ob,mA,n,r,q⟩:=(show bZ P w H h a (.ins C dx fs)from bK a _ e);exact⟨mA,⟨ob,n,ne⟩,r,q,z,d⟩
end
structure NO(K:PySem.W.Frag)(C:Addr):Prop where
 pg:PySem.W.plainGet K C Str.empty=true
 hd:PySem.W.hasDictIn K C=true
 po:PySem.W.plainOver K C=true
 sa:PySem.W.findIn K (.ref C) "__setattr__"=some (some (.builtin "object.__setattr__"))
theorem NO.get{K:PySem.W.Frag}{C:Addr}(c:NO K C)(f:Str):PySem.W.plainGet K C f=true:=c.pg
def gB(K:PySem.W.Frag)(C:Addr)(f:Str):Prop:=PySem.W.findIn K (.ref C) f=some none
theorem gB.aaf{K:PySem.W.Frag}{C:Addr}{f:Str}(n:gB K C f):PySem.W.takerIn K C f=some none:=by unfold PySem.W.takerIn;rw[show PySem.W.findIn K (.ref C) f=some none from n];rfl
structure Con(K:PySem.W.Frag)(C:Addr)(f:Str)(v:V)(u:Value):Prop where
 at_:PySem.W.findIn K (.ref C) f=some (some u)
 rel:RelV v u
 get:PySem.W.specialIn K u "__get__"=some none
 cp:PySem.W.copiedNames.contains f=false
structure Meth(K:PySem.W.Frag)(C:Addr)(m:Str)(f:Addr):Prop where
 at_:PySem.W.findIn K (.ref C) m=some (some (.ref f))
 fn:PySem.W.isFn K (.ref f)=true
 kp:PySem.W.keepIn K (.ref f)=true
section
variable{X:Cx}{pins:List (Addr×Obj)}{σ:St}{H:Hp}{s:Shared}{a C dx:Addr}{fs:List (Str×V)}{f:Str}{v:V}{A:Around}{E:Value->Shared->Prop}
theorem EK{b:Bool}{Q:Value->Shared->Prop}(I:Inv X pins σ H s)(e:H a=some (.ins C dx fs))(c:NO X.K C)(n:gB X.K C f)(l:fs.lookup f=some v)(h:∀u s',Inv X pins σ H s'->RelV v u->Q u s'):wpAny (model X.prog X.w) A (getAttr (.ref a) f b) Q E s:=by obtain⟨mA,O,r,_,_,_⟩:=sr I.bK e;obtain⟨u,g,d⟩:=jU.some_of (v:=v) (o:=mA f) (by rw[<-l];exact r f);exact get_map I.gL O (c.get f) c.hd n g (Iy d) (h u _ (I.tok _) d)
theorem tP{m:Str}{g:Addr}{pl:Sem Bool}{Q:Value×List Value->Shared->Prop}(I:Inv X pins σ H s)(e:H a=some (.ins C dx fs))(c:NO X.K C)(k:Meth X.K C m g)(l:fs.lookup m=none)(h:Q (.ref g,[.ref a]) s):wpAny (model X.prog X.w) A (getMethod (.ref a) m pl) Q E s:=by obtain⟨mA,O,r,_,_,_⟩:=sr I.bK e;have hn:mA m=none:=jU.none_of (by rw[<-l];exact r m);exact Mf I.gL O (c.get m) k.at_ k.fn hn h
theorem EU{y:V}{u:Value}{Q:Unit->Shared->Prop}(I:Inv X pins σ H s)(e:H a=some (.ins C dx fs))(c:NO X.K C)(n:gB X.K C f)(hl:fs.length<1000)(m:RelV y u)(h:∀s',Inv X pins σ (upd H a (.ins C dx (jT f y fs))) s'->Q () s'):wpAny (model X.prog X.w) A (setAttr (.ref a) f u) Q E s:=by
 obtain⟨mA,O,r,j,_,i⟩:=sr I.bK e;have l:(fs.map (·.1)).length<=sizeLine:=by rw[cy,sizeLine_eq];lia
 refine PU I.gL O c.sa c.po n.aaf c.hd j l λh' d sb=>h _ ?_;have hd:∃o,h'.get? dx=some o:=let⟨o,_,_,e',_⟩:=d.ns;⟨o,e'⟩;refine I.write (x:=a) (e:=dx) (by rw[e];exact True.intro) (.inr i) (λb q hb z=>(sb.2 b hb).trans z) hd ?_;refine⟨by rw[aI O.ne];exact i,?_,O.ne,d.obj,_,d.ns,λg=>?_,λg k=>?_⟩;·have :=nY f y fs;lia
 ·show jU ((jT f y fs).lookup g) (if g=f then some u else mA g);rw[oP];by_cases q:g=f;·rw[if_pos q,if_pos q];exact m
  ·rw[if_neg q,if_neg q];exact r g
 ·by_cases q:g=f;·rw[q];exact(nP f y fs).1
  ·refine(nP f y fs).2 g (j g λz=>k ?_);show(if g=f then some u else mA g)=none;rw[if_neg q];exact z
theorem Inv.made(I:Inv X pins σ H s):Inv X pins σ (upd (upd H s.heap.objs.size (.own (s.heap.objs.size+1))) (s.heap.objs.size+1) (.ins C s.heap.objs.size [])) {s with heap:=(s.heap.push PySem.W.emptyDict).push (PySem.W.instObj C s.heap.objs.size)}:=by
 have e1:(s.heap.push PySem.W.emptyDict).get? s.heap.objs.size=some PySem.W.emptyDict:=eI s.heap rfl;have e2:((s.heap.push PySem.W.emptyDict).push (PySem.W.instObj C s.heap.objs.size)).get? (s.heap.objs.size+1)=some (PySem.W.instObj C s.heap.objs.size):=by have :=eI (s.heap.push PySem.W.emptyDict) (o:=PySem.W.instObj C s.heap.objs.size) rfl;rwa[Heap.size_push]at this
 have e3:(s.heap.push PySem.W.emptyDict).Ns s.heap.objs.size (λ_=>none):=⟨PySem.W.emptyDict,#[],_,e1,rfl,(λe d=>absurd d (by simp)),λ_=>rfl⟩;have c:=I.laid (a:=s.heap.objs.size) (o:= .own (s.heap.objs.size+1)) (h':=s.heap.push PySem.W.emptyDict) (t':=s.toks) (λb u q=>bC _ q) (bf _) ⟨_,e1⟩;refine c.laid (a:=s.heap.objs.size+1) (o:= .ins C s.heap.objs.size []) (t':=s.toks) (λb u q=>bC _ q) (Nat.le_of_eq (Heap.size_push _ _)) ?_;have ne:s.heap.objs.size≠s.heap.objs.size+1:=cW (Nat.lt_succ_self _);refine⟨by rw[aI ne,aq],dA _,ne,e2,λ_=>none,(Heap.Ns1.of_empty e3).at λo q=>bC _ q,λ_=>True.intro,λy g=>absurd rfl g⟩
theorem Q5{prog:Program}{w:World}{env:Env}{e:Expr}{f:Str}{b:Pos}{s:Shared}{Q:Value->Shared->Prop}(hb:attributeBase e f env (eval e env)=eval e env)(h:wpAny (model prog w) A (eval e env) (λo c=>wpAny (model prog w) A (getAttr o f true) Q E c) E s):wpAny (model prog w) A (eval (.Attribute e f b) env) Q E s:=Attribute_any_ h (by rw[arm_eval_Attribute,hb])
end
noncomputable def acd(K:PySem.W.Frag)(c:TE)(f:Str):TE:=λσ H Q=>c σ H λx b=>∃a C dx fs v,x= .ref a/\b a=some (.ins C dx fs)/\NO K C/\gB K C f/\fs.lookup f=some v/\Q v b
noncomputable def abx(K:PySem.W.Frag)(d e:TE)(f:Str):TS:=λD σ H=>e σ H λy c=>d σ c λx b=>∃a C dx fs,x= .ref a/\b a=some (.ins C dx fs)/\NO K C/\gB K C f/\fs.length<1000/\D.nx σ (upd b a (.ins C dx (jT f y fs)))
section
variable{X:Cx}{o e value:Expr}{f:Str}{pos pos' LH:Pos}{ta tv:TE}
theorem eF(j:PE X e ta)(hb:attributeBase e f X.env (eval e X.env)=eval e X.env):PE X (.Attribute e f pos) (acd X.K ta f):=by intro pins s σ H Q I h;refine Q5 hb (bH (j pins s σ H _ I h) λu s1 p=>?_);obtain⟨x,b,d,m,a,C,dx,fs,v,ex,i,c,n,l,q⟩:=p;subst ex;obtain rfl:u=Value.ref a:=m;exact EK d i c n l λr s2 g k=>⟨v,b,g,k,q⟩
theorem xW(ha:PE X o ta)(m:PE X value tv)(k:swapsWith value (some (.Attribute o f pos')) pos.line X.env=pure false):PS X (.Assign [.Attribute o f pos'] value pos) (abx X.K ta tv f):=by intro pins s σ H D I h;refine plainObj_wpAny_Assign_Attribute (bH (m pins s σ H _ I h) λu s1⟨y,b,d,v,q⟩=>bH (ha pins s1 σ b _ d q) λp s2 w=>?_) k;obtain⟨x,z,g,t,a,C,dx,fs,ex,j,c,n,l,r⟩:=w;subst ex;obtain rfl:p=Value.ref a:=t;exact EU g j c n l v λA i=>⟨σ,_,i,r⟩
end
section
variable{X:Cx}{pins:List (Addr×Obj)}{σ:St}{H:Hp}{s:Shared}{A:Around}{E:Value->Shared->Prop}{Q:Value->Shared->Prop}{c:Value}{b:Bool}
inductive kH(K:PySem.W.Frag)(H:Hp):V->Value->Prop where|aO:kH K H .aO (.type "NoneType")|bl(x:Bool):kH K H (.bl x) (.type "bool")|int(i:Int):kH K H (.int i) (.type "int")|str(x:Str):kH K H (.str x) (.type "str")|S5(x:UInt64):kH K H (.S5 x) (.type "float")|lst{a:Addr}{xs:List V}(e:H a=some (.lst xs)):kH K H (.ref a) (.type "list")|DE{a:Addr}{o:Obj}{xs:List V}(e:H a=some (.DE o (.lst xs))):kH K H (.ref a) (.type "list")|tup{a:Addr}{xs:List V}(e:H a=some (.tup xs)):kH K H (.ref a) (.type "tuple")|dK{a:Addr}{aE:List (Key×V)}(e:H a=some (.dK aE)):kH K H (.ref a) (.type "dict")|dT{a:Addr}{aE:List (List Key×V)}(e:H a=some (.dT aE)):kH K H (.ref a) (.type "dict")|ins{a C dx:Addr}{fs:List (Str×V)}(e:H a=some (.ins C dx fs))(cl:NO K C)(ha:PySem.W.findIn K (.ref C) "__class__"=some (some (.builtin "object.__class__")))(hn:PySem.W.specialIn K (.builtin "object.__class__") "__get__"=some (some (.builtin "getset_descriptor.__get__")))(htk:PySem.W.takesIn K (.builtin "object.__class__")=some true)(hm:PySem.W.mroIn K C (.type "object")=some true):kH K H (.ref a) (.ref C)
theorem JN{x:V}{u t:Value}(I:Inv X pins σ H s)(f:RelV x u)(ty:kH X.K H x t)(e:PySem.W.kitOne X.K t c=some b)(h:∀tk,Q (.bool b) {s with toks:=tk}):wpAny (model X.prog X.w) A (call (.builtin "isinstance") [u,c]) Q E s:=by cases ty with|aO=>cases(show u=Value.none from f);exact PySem.W.kia_one PySem.W.kitx_none I.gL True.intro e (λz=>nomatch z) h|bl y=>cases(show u=Value.bool y from f);exact PySem.W.kia_one PySem.W.kitx_bool I.gL True.intro e (λz=>nomatch z) h|int i=>obtain⟨t,q⟩:=(show∃t,u=Value.int i t from f);cases q;exact PySem.W.kia_one PySem.W.kitx_int I.gL True.intro e (λz=>nomatch z) h|str y=>obtain⟨t,q⟩:=(show∃t,u=Value.str y t from f);cases q;exact PySem.W.kia_one PySem.W.kitx_str I.gL True.intro e (λz=>nomatch z) h|S5 y=>obtain⟨t,q⟩:=(show∃t,u=Value.float y t from f);cases q;exact PySem.W.kia_one PySem.W.kitx_float I.gL True.intro e (λz=>nomatch z) h|@lst a xs d=>cases(show u=Value.ref a from f);obtain⟨_,_,n,_,h1⟩:=(show bZ X.prog X.w H s.heap a (.lst xs)from I.bK a _ d);exact PySem.W.kia_one PySem.W.kitx_list I.gL ⟨_,h1,rfl⟩ e (λz=>nomatch z) h|@DE a ob xs d=>cases(show u=Value.ref a from f);obtain⟨_,_,_,n,_,h1⟩:=(show bZ X.prog X.w H s.heap a (.DE ob (.lst xs))from I.bK a _ d);exact PySem.W.kia_one PySem.W.kitx_list I.gL ⟨_,h1,rfl⟩ e (λz=>nomatch z) h|@tup a xs d=>cases(show u=Value.ref a from f);obtain⟨_,_,_,p⟩:=(show bZ X.prog X.w H s.heap a (.tup xs)from I.bK a _ d);obtain⟨o,h1,h2,_⟩:=p;exact PySem.W.kia_one PySem.W.kitx_tuple I.gL ⟨o,h1,h2⟩ e (λz=>nomatch z) h|@dK a aE d=>cases(show u=Value.ref a from f);obtain⟨_,_,vs,_,p⟩:=(show bZ X.prog X.w H s.heap a (.dK aE)from I.bK a _ d);obtain⟨o,es,ep,h1,h2,_⟩:=p;exact PySem.W.kia_one PySem.W.kitx_dict I.gL ⟨o,h1,h2.1⟩ e (λz=>nomatch z) h|@dT a aE d=>cases(show u=Value.ref a from f);obtain⟨_,_,xs,_,o,es,ep,h1,h2,_⟩:=(show bZ X.prog X.w H s.heap a (.dT aE)from I.bK a _ d);exact PySem.W.kia_one PySem.W.kitx_dict I.gL ⟨o,h1,h2.1⟩ e (λz=>nomatch z) h|@ins a C dx fs d cl ha hn htk hm=>cases(show u=Value.ref a from f);obtain⟨mA,O,_⟩:=sr I.bK d;obtain⟨od,J,_⟩:=O.look;exact PySem.W.kia_one (PySem.W.kitx_own (cl.get _) cl.hd ha hn htk hm) I.gL J e (λz=>nomatch z) h
end
structure bY(k:Nat)(A:Around):Prop where
 dp:A.depth+3*k+5<recursionLimit
 un:A.units+16*k+200<cLine
 hd:130<=k->A.handled=none
theorem bY.mono{j k:Nat}{A:Around}(r:bY k A)(h:j<=k):bY j A:=⟨by have :=r.dp;lia,by have :=r.un;lia,λz=>r.hd (by lia)⟩
theorem bY.deeper{k:Nat}{A:Around}(r:bY (k+1) A)(env:Env):bY k (A.deeper env):=⟨by have :=r.dp;show A.depth+1+3*k+5<_;lia,by have :=r.un;show A.units+3+16*k+200<_;lia,λz=>r.hd (by lia)⟩
theorem DH{A:Around}{C:Addr}{us:List Value}{a:List (Str×Value)}:(A.under (.builtin "type.__call__" ⟨.ref C::us,a⟩)).depth=A.depth+1:=by first|rfl|simp[Around.under,Code.weight,Code.isCreation,Code.isGuard,Code.isCaller,Code.frames,Code.isFrame,guardIds]
theorem DL{A:Around}{C:Addr}{us:List Value}{a:List (Str×Value)}:(A.under (.builtin "type.__call__" ⟨.ref C::us,a⟩)).units=A.units+1:=by first|rfl|simp[Around.under,Code.cUnits,Code.frames,Code.isFrame]
theorem bY.make{k:Nat}{A:Around}(r:bY (k+1) A)(C:Addr)(us:List Value)(a:List (Str×Value)):bY k (A.under (.builtin "type.__call__" ⟨.ref C::us,a⟩)):=⟨by have :=r.dp;rw[DH];lia,by have :=r.un;rw[DL];lia,λz=>r.hd (by lia)⟩
theorem bY.depth{k:Nat}{A:Around}(r:bY k A):A.depth<recursionLimit:=by have :=r.dp;lia
theorem bY.units{k:Nat}{A:Around}(r:bY k A):A.units+64<cLine:=by have :=r.un;lia
noncomputable def Kd:TA:=λ_ H Q=>Q [] H
noncomputable def Hq(c:TE)(d:TA):TA:=λσ H Q=>c σ H λx a=>d σ a λxs b=>Q (x::xs) b
section
variable{X:Cx}{e:Expr}{es:List Expr}{te:TE}{t:TA}{pos:Pos}
theorem ah:PA X [] Kd:=λ_ _ _ _ H Q I h=>Calls.spliced_nil ⟨[],H,I, .nil,h⟩
theorem aa(ha:PE X e te)(f:PA X es t)(g:starEach (e::es) X.env=(false,eval e X.env)::starEach es X.env:=by rfl):PA X (e::es) (Hq te t):=by intro pos pins s σ H Q I h;rw[g];show wpAny _ _ (spliced ((false,eval e X.env)::backTo pos (starEach es X.env))) _ _ s;refine Calls.spliced_cons (bH (ha pins s σ H _ I h) λu s1 m=>?_);obtain⟨x,a,c,k,i⟩:=m;exact bH (f pos pins s1 σ a _ c i) λus s2⟨xs,b,d,l,j⟩=>⟨x::xs,b,d, .cons k l,j⟩
noncomputable def acH(t:TA):TE:=λσ H Q=>t σ H λxs a=>xs.length<=sizeLine/\∀p,a p=none->Q (.ref p) (upd a p (.tup xs))
noncomputable def acn(t:TA):TE:=λσ H Q=>t σ H λxs a=>xs.length<=sizeLine/\∀p,a p=none->Q (.ref p) (upd a p (.lst xs))
theorem bJ{f}(h:PA X es t):PE X (.Tuple es f pos) (acH t):=by intro pins s σ H Q I hq;refine wpAny_Tuple_spliced (bH (h pos pins s σ H _ I hq) λus s1⟨xs,a,c,r,z,q⟩=>⟨by rw[<-r.length];exact z,?_⟩);have d:a s1.heap.objs.size=none:=c.bK.fresh (bf _);refine⟨.ref s1.heap.objs.size,upd a s1.heap.objs.size (.tup xs),c.laid (t':=s1.toks) (λb u e=>bC _ e) (bf _) ?_,rfl,q _ d⟩;exact⟨z,us,r,⟨_,eI _ rfl,rfl,_,rfl⟩⟩
theorem gy(h:PA X es t):PE X (.List es pos) (acn t):=by intro pins s σ H Q I hq;refine wpAny_List_spliced (bH (h pos pins s σ H _ I hq) λus s1⟨xs,a,c,r,z,q⟩=>⟨by rw[<-r.length];exact z,?_⟩);have d:a s1.heap.objs.size=none:=c.bK.fresh (bf _);refine⟨.ref s1.heap.objs.size,upd a s1.heap.objs.size (.lst xs),c.laid (t':=s1.toks) (λb u e=>bC _ e) (bf _) ?_,rfl,q _ d⟩;exact⟨z,us,0,r,eI _ rfl⟩
end
noncomputable abbrev Sp:=List V->Hp->VK->XK->Prop
noncomputable abbrev kL:=Option Value->List Env->Hp->Shared->XK->Value->Shared->Prop
structure vm(P:Program)(w:World)(K:PySem.W.Frag)(mg:Str->Option Value)(base:Heap)(A:Around)(outer:List Env)(s:Shared)(H:Hp):Prop where
 frames:A.frames=some outer
 mod:Mod K mg base
 bs:∀b o,base.get? b=some o->s.heap.get? b=some o/\H b=none
 DB:base.objs.size<=s.heap.objs.size
 iP:s.heap.FunFrames base outer
 Ob:∀b∈jq outer,H b=none
 bK:iK P w H s.heap
 bare:AllBare s.gens
 Oh:HB base A
noncomputable def CE(outer:List Env)(P:Program)(w:World)(H:Hp)(s:Shared)(Q:VK)(u:Value)(s':Shared):Prop:=∃v H',s'.os=s.os/\AllBare s'.gens/\Un (jq outer) [] H H' s.heap s'.heap/\iK P w H' s'.heap/\RelV v u/\Q v H'
noncomputable def CR(CX:kL)(hh:Option Value)(outer:List Env)(P:Program)(w:World)(H:Hp)(s:Shared)(Q:VK)(E:XK)(r:Result)(s':Shared):Prop:=match r with| .ok (.ret u)=>CE outer P w H s Q u s'| .ok _=>False| .error e=>CX hh outer H s E e s'
structure nA(P:Program)(w:World)(K:PySem.W.Frag)(mg:Str->Option Value)(base:Heap)(CX:kL)(k:Nat)(f:Addr)(fd:FuncData)(ps:List Str)(sp:Sp):Prop where
 len:∀vs H Q E,sp vs H Q E->vs.length=ps.length
 run:∀(A:Around)(outer:List Env)(s:Shared)(H:Hp)(args:Args)(us:List Value)(vs:List V)(Q:VK)(E:XK),bY k A->vm P w K mg base A outer s H->BindsTo s fd args (ps.zip us)->Vals vs us->sp vs H Q E->codeAny (model P w) A (.call (.ref f) args) (CR CX A.handled outer P w H s Q E) s
theorem vm.make{P:Program}{w:World}{K:PySem.W.Frag}{mg:Str->Option Value}{base:Heap}{A:Around}{outer:List Env}{s:Shared}{H:Hp}(e:vm P w K mg base A outer s H)(C:Addr)(us:List Value)(a:List (Str×Value)):vm P w K mg base (A.under (.builtin "type.__call__" ⟨.ref C::us,a⟩)) outer s H:=⟨by first|exact e.frames|(simpa[Around.under,Code.envs,Code.isFrame,pushEnvs]using e.frames),e.mod,e.bs,e.DB,e.iP,e.Ob,e.bK,e.bare,e.Oh⟩
section
variable{X:Cx}{pins:List (Addr×Obj)}{σ:St}{H:Hp}{s s':Shared}
theorem Inv.after{Q:VK}{u:Value}(I:Inv X pins σ H s)(h:CE X.stack X.prog X.w H s Q u s'):EP X pins σ Q u s':=by obtain⟨v,H',os,bare,un,bK,r,q⟩:=h;obtain⟨hh,g,d,t,a⟩:=s';obtain rfl:a=s.os:=os;exact⟨v,H',I.call (h':=hh) (g':=g) (d':=d) (t':=t) (ch:=[]) un bK bare (λb z=>absurd z (by simp)),r,q⟩
end
noncomputable def GD(sp:Sp)(b:List V)(E:XK)(t:TA):TE:=λσ H Q=>t σ H λvs a=>sp (vs++b) a Q E
noncomputable def SK(C:Addr)(m:Str)(sp:Sp)(d:List V)(E:XK)(e:TE)(t:TA):TE:=λσ H Q=>e σ H λx b=>∃a dx fs,x= .ref a/\b a=some (.ins C dx fs)/\fs.lookup m=none/\t σ b λvs c=>sp (x::(vs++d)) c Q E
noncomputable def Zn(C:Addr)(sp:Sp)(c:List V)(E:XK)(t:TA):TE:=λσ H Q=>t σ H λvs a=>∀x dx,a x=none->a dx=none->dx≠x->sp (.ref x::(vs++c)) (upd (upd a dx (.own x)) x (.ins C dx [])) (λv b=>v= .aO/\Q (.ref x) b) E
noncomputable def Binds(K:PySem.W.Frag)(fd:FuncData)(ps:List Str)(ds:List Value):Prop:=∀(s:Shared)(us:List Value),K.In s.heap->(us++ds).length=ps.length->BindsTo s fd ⟨us,[]⟩ (ps.zip (us++ds))
theorem Binds.all{K:PySem.W.Frag}{fd:FuncData}{ps:List Str}(h:∀us:List Value,us.length=ps.length->bindArgs fd ⟨us,[]⟩=pure (ps.zip us)):Binds K fd ps []:=λs us _ hl=>by rw[gc]at hl⊢;exact .of_eq (h us hl)
def Passes(CX:kL)(X:Cx)(E:XK):Prop:=∀(pins:List (Addr×Obj))(σ:St)(H:Hp)(s:Shared)(e:Value)(s':Shared),Inv X pins σ H s->CX X.A.handled X.stack H s E e s'->X.xe e s'
section
variable{X:Cx}{CX:kL}{k:Nat}{f C:Addr}{fd:FuncData}{ps:List Str}{sp:Sp}{Xr:List V}{ds:List Value}{E:XK}{x m:Str}{p pos apos:Pos}{e o:Expr}{es:List Expr}{ta:TE}{t:TA}
end
noncomputable def PK(X:Cx)(a:List Keyword)(t:TA):Prop:=∀(b:Pos)(pins:List (Addr×Obj))(s:Shared)(σ:St)(H:Hp)(Q:List V->Hp->Prop),Inv X pins σ H s->t σ H Q->wpAny (model X.prog X.w) X.A (evalAll ((backToKw b (keywordEach a X.env)).map (·.2))) (AP X pins σ Q) X.xe s
section
variable{X:Cx}{CX:kL}{k:Nat}{f C:Addr}{fd:FuncData}{ps ks:List Str}{sp:Sp}{E:XK}{x m:Str}{p pos apos abH:Pos}{e o:Expr}{es:List Expr}{Zu:List Keyword}{te ta:TE}{t tk:TA}{nm:Option Str}
theorem UK:PK X [] Kd:=λ_ _ _ _ H Q I h=>wpAny_evalAll_nil ⟨[],H,I, .nil,h⟩
theorem O1(ha:PE X e te)(g:PK X Zu t):PK X (⟨nm,e,abH⟩::Zu) (Hq te t):=by intro pos pins s σ H Q I h;show wpAny _ _ (evalAll ((do let v<-eval e X.env;standAt pos;pure v)::(backToKw pos (keywordEach Zu X.env)).map (·.2))) _ _ s;refine wpAny_evalAll_cons (ao (bH (ha pins s σ H _ I h) λu s1⟨x,a,c,l,i⟩=>ao (wpAny_standAt (aU ?_))));exact bH (g pos pins s1 σ a _ c i) λus s2⟨xs,b,d,n,j⟩=>⟨x::xs,b,d, .cons l n,j⟩
end
structure aC(N P:List Str)(sc:Scope):Prop where
 kind:sc.kind= .function
 co:sc.isCoroutine=false
 gen:sc.isGenerator=false
 nd:N.Nodup
 pre:N.take P.length=P
 par:∀x∈P,sc.names.lookup x=some .local\/sc.names.lookup x=some .cell
 Uy:∀y∈sc.names,y.2≠ .free
theorem xj{kindOf:Str->Option NameKind}{x:Str}:∀{binds:List (Str×Value)}{m:Str->Option Value},(∀v,(x,v)∉binds)->bindL kindOf binds m x=m x
 |[],_,_=>rfl
 |(n,v)::r,m,h=>by
  unfold bindL;rw[xj λw hw=>h w (cF _ hw)];split
  ·have :x≠n:=by rintro rfl;exact h v cj
   simp[this]
  ·rfl
theorem xB{kindOf:Str->Option NameKind}{x:Str}:∀{binds:List (Str×Value)}{m:Str->Option Value},(∀v,(x,v)∉binds)->bindC kindOf binds m x=m x
 |[],_,_=>rfl
 |(n,v)::r,m,h=>by
  unfold bindC;rw[xB λw hw=>h w (cF _ hw)];split;·rfl
  ·have :x≠n:=by rintro rfl;exact h v cj
   simp[this]
theorem xk{kindOf:Str->Option NameKind}{x:Str}{v:Value}:∀{P:List Str}{vs:List Value}{i:Nat}{m:Str->Option Value},P.Nodup->P[i]?=some x->vs[i]?=some v->kindOf x=some .local->bindL kindOf (P.zip vs) m x=some v|[],_,_,_,_,h,_,_=>by simp at h|_::_,[],_,_,_,_,h,_=>by simp at h|p::P,w::vs,0,m,nd,h1,h2,a=>by simp at h1 h2;subst h1;subst h2;show bindL kindOf ((p,w)::P.zip vs) m p=_;unfold bindL;rw[xj λv b=>(List.nodup_cons.mp nd).1 (List.of_mem_zip b).1,if_pos a];simp|p::P,w::vs,i+1,m,nd,h1,h2,a=>by show bindL kindOf ((p,w)::P.zip vs) m x=_;unfold bindL;exact xk (i:=i) (List.nodup_cons.mp nd).2 (by simpa using h1) (by simpa using h2) a
theorem wu{kindOf:Str->Option NameKind}{x:Str}{v:Value}:∀{P:List Str}{vs:List Value}{i:Nat}{m:Str->Option Value},P.Nodup->P[i]?=some x->vs[i]?=some v->kindOf x≠some .local->bindC kindOf (P.zip vs) m x=some v|[],_,_,_,_,h,_,_=>by simp at h|_::_,[],_,_,_,_,h,_=>by simp at h|p::P,w::vs,0,m,nd,h1,h2,a=>by simp at h1 h2;subst h1;subst h2;show bindC kindOf ((p,w)::P.zip vs) m p=_;unfold bindC;rw[xB λv b=>(List.nodup_cons.mp nd).1 (List.of_mem_zip b).1,if_neg a];simp|p::P,w::vs,i+1,m,nd,h1,h2,a=>by show bindC kindOf ((p,w)::P.zip vs) m x=_;unfold bindC;exact wu (i:=i) (List.nodup_cons.mp nd).2 (by simpa using h1) (by simpa using h2) a
noncomputable def start(N:List Str)(vs:List V):St:=vs.map some++List.replicate (N.length-vs.length) none
noncomputable def dw(CX:kL)(P:Program)(w:World)(K:PySem.W.Frag)(mg:Str->Option Value)(base:Heap)(N:List Str)(qual:Str)(scope:Scope)(f:Addr)(cd:Value)(A:Around)(outer:List Env)(s:Shared)(H:Hp)(E:XK):Cx where prog:=P;w:=w;K:=K;mg:=mg;base:=base;A:=A.deeper (envOfC qual scope s.heap.objs.size f cd);N:=N;bV:=s;H₀:=H;env:=envOfC qual scope s.heap.objs.size f cd;outer:=outer;stack:=envOfC qual scope s.heap.objs.size f cd::outer;ex:=[];calm:=true;fn:=λ_=>true;pn:=[];xe:=λe s'=>wpAny (model P w) (A.deeper (envOfC qual scope s.heap.objs.size f cd)) (leaving (envOfC qual scope s.heap.objs.size f cd) e) (λ_ a=>CX A.handled outer H s E e a) (λe' a=>CX A.handled outer H s E e' a) s'
theorem BA{sc:Scope}{n:Nat}{x:Str}(h:sc.names.lookup x=some .cell):∃c,(cellsFrom n sc.names []).lookup x=some c:=by have q:=PySem.W.cellsFrom_some sc.names n [] (.inl h);exact Option.isSome_iff_exists.mp q
theorem wM{CX:kL}{P:Program}{w:World}{K:PySem.W.Frag}{mg:Str->Option Value}{base:Heap}{N ps:List Str}{qual:Str}{scope:Scope}{f:Addr}{cd:Value}{A:Around}{outer:List Env}{s s1:Shared}{H:Hp}{E:XK}{us:List Value}{vs:List V}(S:aC N ps scope)(e0:vm P w K mg base A outer s H)(hl:vs.length=ps.length)(r:Vals vs us)(x:InCallC s s.heap.objs.size (bindL (envOfC qual scope s.heap.objs.size f cd).kindOf (ps.zip us) λ_=>none) (cellsFrom (s.heap.objs.size+1) scope.names []) (bindC (envOfC qual scope s.heap.objs.size f cd).kindOf (ps.zip us) λ_=>none) s1):Inv (dw CX P w K mg base N qual scope f cd A outer s H E) [] (start N vs) H s1:=by
 have B:ps.length<=N.length:=by have :=congrArg List.length S.pre;rw[List.length_take]at this;lia
 obtain⟨h1,tk,rfl,l⟩:=x.done;have j:∀b:Addr,b∉(dw CX P w K mg base N qual scope f cd A outer s H E).ex:=λb z=>absurd (show b∈([]:List Addr)from z) (by simp);refine⟨⟨e0.mod,S.kind,rfl,rfl,bf _,λy z c h1 h2=>?_,λy d=>?_,λy c _ h=>?_,λ_=>e0.Oh.toP,Around.frames_deeper e0.frames, .inr ⟨rfl,rfl⟩,λb z=>absurd z (j b),e0.bs,e0.DB,λb _ _=>j b,λb z=>absurd z (j b),e0.iP,e0.Ob⟩,rfl,e0.bare,Un.kept l,⟨_,x.toInCall.ns,λi y v h1 h2 h3=>?_⟩,λy c h=>⟨_,x.cell y c h⟩,e0.bK.fresh (bf _),λy c h=>?_,λp g=>absurd (show p∈([]:List (Addr×Obj))from g) (by simp),e0.bK.kept l,?_⟩;·exact name_of_addr x.apart (PySem.mem_of_lookup h1) (PySem.mem_of_lookup h2)
 ·have d:scope.names.lookup y=some .cell\/scope.names.lookup y=some .free:=d;rcases d with d|d;·exact BA d
  ·exact absurd rfl (S.Uy _ (PySem.mem_of_lookup d))
 ·exact Nat.le_of_lt (x.above y c (PySem.mem_of_lookup h))
 ·have hi:i<vs.length:=by
   unfold start at h2;by_cases hi:i<vs.length;·exact hi
   ·rw[List.getElem?_append_right (by simpa using hi)]at h2;rw[List.getElem?_replicate]at h2;split at h2<;>cases h2
  have ha:vs[i]?=some v:=by unfold start at h2;rw[DM (by simpa using hi),ny]at h2;cases e:vs[i]? with|none=>rw[e]at h2;cases h2|some a=>rw[e]at h2;cases h2;rfl
  obtain⟨u,m,t⟩:=r.get ha;have g:ps[i]?=some y:=by rw[<-S.pre,List.getElem?_take_of_lt (by lia)];exact h1
  have o:ps.Nodup:=by rw[<-S.pre];exact S.nd.sublist (List.take_sublist _ _)
  refine⟨u,t,?_⟩;rcases S.par y (vI g)with k|k;·exact .inl ⟨k,xk o g m k⟩
  ·obtain⟨c,e⟩:=BA (n:=s.heap.objs.size+1) k;refine .inr ⟨.inl k,c,e,?_⟩;have q:=x.cell y c e;rw[wu o g m (by show scope.names.lookup y≠_;rw[k];decide)]at q;exact q
 ·exact e0.bK.fresh (Nat.le_of_lt (x.above y c (PySem.mem_of_lookup h)))
 ·unfold start;show _=N.length;rw[iQ,cy,List.length_replicate];lia
theorem B0{CX:kL}{P:Program}{w:World}{K:PySem.W.Frag}{mg:Str->Option Value}{base:Heap}{k:Nat}{f:Addr}{name qual:Str}{params:Arguments}{body:List Stmt}{scope:Scope}{g kV doc pm bS ct oc:Value}{an od:Option Addr}{A4:Array (Option Value)}{N ps:List Str}{sp:Sp}(C:K.lookup f=some ⟨oc,od, .func (PySem.W.fnOf name qual params body scope g kV doc pm an bS ct),A4⟩)(l:PySem.W.codeIn K bS qual=true)(S:aC N ps scope)(len:∀vs H Q E,sp vs H Q E->vs.length=ps.length)(j:∀(A:Around)(outer:List Env)(s:Shared)(H:Hp)(vs:List V)(Q:VK)(E:XK),bY k (A.deeper (envOfC qual scope s.heap.objs.size f bS))->sp vs H Q E->∃t,gR (dw CX P w K mg base N qual scope f bS A outer s H E) body t/\t {nx:=λ_ H'=>Q .aO H',rt:=Q} (start N vs) H):nA P w K mg base CX (k+1) f (PySem.W.fnOf name qual params body scope g kV doc pm an bS ct) ps sp:=by
 refine⟨len,λA outer s H args us vs Q E h e0 hb r i=>?_⟩;have hl:=len _ _ _ _ i;have KX:K.In s.heap:=e0.mod.DD.keeps λb o e=>(e0.bs b o e).1;have B:s.heap.NoLimit:=e0.mod.nolimit.keeps λb o e=>(e0.bs b o e).1;have p:∀y∈ps.zip us,scope.names.lookup y.1=some .local\/(scope.names.lookup y.1=some .cell/\((cellsFrom (s.heap.objs.size+1) scope.names []).lookup y.1).isSome=true):=λ⟨n,v⟩z=>by
  rcases S.par n (List.of_mem_zip z).1 with q|q;·exact .inl q
  ·exact .inr ⟨q,PySem.W.cellsFrom_some _ _ _ (.inl q)⟩
 refine codeAny_call_function h.depth (KX _ _ C) rfl S.co S.gen rfl (PySem.W.codeRec_of KX l) (hb _ _ _ _ ?_);refine wpAny_newFunctionEnv_cells S.kind p λenv m s1 x=>?_;subst m;refine⟨B.keeps x.toInCall.keep,codeAny_func ?_⟩;obtain⟨t,ht,hq⟩:=j A outer s H vs Q E (h.deeper _) i;have I:Inv (dw CX P w K mg base N qual scope f bS A outer s H E) [] (start N vs) H s1:=wM S e0 hl r x;refine f_ (ht [] s1 (start N vs) H _ I hq) (λfl s' a=>?_) λe s' a=>a;have fin:∀{c:St}{H':Hp}{v:V}{u:Value},Inv (dw CX P w K mg base N qual scope f bS A outer s H E) [] c H' s'->RelV v u->Q v H'->CE outer P w H s Q u s':=λ{c H' v u}J d q=>⟨v,H',J.os,J.bare,J.base,J.bK,d,q⟩;cases fl with|ret u=>obtain⟨v,c,H',J,d,q⟩:=a;exact fin J d q|next=>obtain⟨c,H',J,q⟩:=a;exact fin (v:=V.aO) (u:=Value.none) J rfl q|brk=>obtain⟨_,_,_,q⟩:=a;exact False.elim q|cont=>obtain⟨_,_,_,q⟩:=a;exact False.elim q
section
variable{X:Cx}{x:Str}{p pos:Pos}{e:Expr}{es:List Expr}{t:TA}{id T:String}{r:List V->Hp->VK->Prop}
noncomputable def tCB(r:List V->Hp->VK->Prop)(t:TA):TE:=λσ H Q=>t σ H λvs a=>r vs a Q
theorem aM(hc:iF X (.builtin id) r)(f:Gl X x)(hm:X.mg x=none)(i:bootBuiltins x=some (.builtin id))(ha:PA X (e::es) t)(hn:x≠"__name__":=by decide)(c:(x==("__debug__":Str))=false:=by decide)(d:starEach (e::es) X.env=(false,eval e X.env)::starEach es X.env:=by rfl)(g:(backTo pos (starEach es X.env)).any (·.1)=false:=by rfl):PE X (.Call (.Name x p) (e::es) [] pos) (tCB r t):=by intro pins s σ H Q I h;refine pM (iR I f hm i ?_ hn c);exact PyProof.Rows.callWith_builtin1 (bH (ha pos pins s σ H _ I h) λus s1⟨vs,a,b,k,j⟩=>hc pins s1 σ a vs us Q b k j) d g
theorem eJ(hc:iF X (.type T) r)(f:Gl X x)(hm:X.mg x=none)(i:bootBuiltins x=some (.type T))(ha:PA X (e::es) t)(hn:x≠"__name__":=by decide)(c:(x==("__debug__":Str))=false:=by decide)(d:starEach (e::es) X.env=(false,eval e X.env)::starEach es X.env:=by rfl)(g:(backTo pos (starEach es X.env)).any (·.1)=false:=by rfl):PE X (.Call (.Name x p) (e::es) [] pos) (tCB r t):=by intro pins s σ H Q I h;refine pM (iR I f hm i ?_ hn c);exact PyProof.Rows.callWith_type1 (bH (ha pos pins s σ H _ I h) λus s1⟨vs,a,b,k,j⟩=>hc pins s1 σ a vs us Q b k j) d g
end
end L2
end
section
namespace HT
open PySem PyProof.Rows
section
open PySem.SeqAt
open PySem.AutoSeq1(wpAny_loadPart')
open PySem.MeetsSeq PySem.MeetsSeq2 PySem.MeetsSeq3
end
section
variable{prog:Program}{w:World}{A:Around}{E:Value->Shared->Prop}{s:Shared}
theorem Q3{t b:Addr}{vs ws:List Value}{Q:Value->Shared->Prop}(ht:IsTup s.heap t vs.toArray)(hb:IsTup s.heap b ws.toArray)(i:vs≠[])(h1:ws=[]->Q (.ref t) s)(h2:ws≠[]->Q (.ref s.heap.objs.size) {s with heap:=s.heap.push {cls:= .type "tuple",data:= .seq (vs++ws).toArray}})(hsz:vs.length+ws.length<=sizeLine):wpAny (model prog w) A (binaryOp .Add (.ref t) (.ref b)) Q E s:=by
 obtain⟨⟨cls,d,data,sl⟩,a,hc,n,hd⟩:=id ht;obtain⟨⟨l,f,data2,k⟩,c,g,j,h⟩:=id hb;simp only at hc hd g h;subst hc hd g h;have e:vs.toArray++ws.toArray=(vs++ws).toArray:=by simp
 by_cases hw:ws=[];·exact concat_meets ⟨_,a,rfl⟩ ⟨_,c,rfl⟩ noFill_tuple_add seq_tuple_add PySem.F.slot_tuple_add PySem.F.entry_tuple_add (PySem.F.args_tuple_add_2 _ _) (tuple_addW1 t b vs.toArray ws.toArray n j d f sl k (by simpa using i) (by simp[hw])) ⟨a,c,h1 hw⟩
 ·refine concat_meets ⟨_,a,rfl⟩ ⟨_,c,rfl⟩ noFill_tuple_add seq_tuple_add PySem.F.slot_tuple_add PySem.F.entry_tuple_add (PySem.F.args_tuple_add_2 _ _) (tuple_addW2 t b vs.toArray ws.toArray n j d f sl k (by simpa using i) (by simpa using hw) (by rw[cE,cE];exact hsz)) ⟨a,c,?_⟩;rw[e];exact h2 hw
noncomputable def dH(n d:Nat):Option Int->Nat|none=>d|some v=>if v<0 then(v+(n:Int)).toNat else min v.toNat n
theorem BR(n d:Nat):dH n d none=d:=rfl
theorem rG(n d k:Nat):dH n d (some (k:Int))=min k n:=by show(if(k:Int)<0 then((k:Int)+(n:Int)).toNat else min (k:Int).toNat n)=min k n;rw[if_neg (by lia),Int.toNat_natCast]
theorem Vk(n d:Nat)(hd:d<=n)(o:Option Int):dH n d o<=n:=by
 cases o with
  |none=>exact hd
  |some v=>
   show(if v<0 then(v+(n:Int)).toNat else min v.toNat n)<=n;by_cases a:v<0;·rw[if_pos a];lia
   ·rw[if_neg a];exact Nat.min_le_right _ _
theorem FZ(v:Int)(n d:Nat):(if v<0 then max (v+(n:Int)) 0 else min v (n:Int))=((dH n d (some v):Nat):Int):=by
 show(if v<0 then max (v+(n:Int)) 0 else min v (n:Int))=(((if v<0 then(v+(n:Int)).toNat else min v.toNat n):Nat):Int);by_cases a:v<0;·simp only[if_pos a];lia
 ·simp only[if_neg a];lia
theorem Eu(lo hi:Option Int)(n:Nat):Builtin.Slice.sliceAdjust lo hi 1 (n:Int)=(((dH n 0 lo:Nat):Int),((dH n n hi:Nat):Int)):=by
 have h1:¬((1:Int)<0):=by lia
 unfold Builtin.Slice.sliceAdjust;simp only[h1,if_false];refine Prod.ext ?_ ?_;·cases lo with|none=>rfl|some v=>exact FZ v n 0
 ·cases hi with|none=>rfl|some v=>exact FZ v n n
theorem DP(i j:Nat):Builtin.Slice.slicePlaces (i:Int) (j:Int) 1=j-i:=by
 unfold Builtin.Slice.slicePlaces;have h1:(1:Int)>0:=by lia
 simp only[h1,if_true,Int.ediv_one];split<;>lia
theorem u7{v:Value}{o:Option Int}{Q:Option Int->Shared->Prop}(p:IsPart v o)(h:Q o s):wpAny (model prog w) A (Builtin.Slice.slicePartIndex v) Q E s:=by cases p with|none=>exact slicePart_none h|int i t=>exact slicePart_int h
theorem gV{sl:Addr}{c d:Value}{lo hi:Option Int}{n:Nat}{Q:Int×Int×Nat->Shared->Prop}(e:s.heap.IsSliceOf sl c d .none)(pl:IsPart c lo)(f:IsPart d hi)(h:Q (((dH n 0 lo:Nat):Int),1,dH n n hi-dH n 0 lo) s):wpAny (model prog w) A (Builtin.Slice.sliceApplied (.ref sl) (pure (n:Int))) Q E s:=by obtain⟨os,b,g,a⟩:=id e;unfold Builtin.Slice.sliceApplied Builtin.Slice.sliceFields;refine ao (ao (dC b a (x:=c) rfl (ao (dC b a (x:=d) rfl (ao (dC b a (x:= .none) rfl (aU ?_)))))));refine ao (slicePart_none ?_);show wpAny _ _ (if((1:Int)==0)=true then _ else _) _ _ s;rw[if_neg (by decide)];refine ao (u7 pl (ao (u7 f (ao (aU ?_)))));show wpAny _ _ (match Builtin.Slice.sliceAdjust lo hi 1 (n:Int)with|(lo,hi)=>pure (lo,(1:Int),Builtin.Slice.slicePlaces lo hi 1)) _ _ s;rw[Eu lo hi n];show wpAny _ _ (pure (((dH n 0 lo:Nat):Int),(1:Int),Builtin.Slice.slicePlaces ((dH n 0 lo:Nat):Int) ((dH n n hi:Nat):Int) 1)) _ _ s;rw[DP];exact aU h
theorem Kk(xs:Array Value)(i k:Nat):((List.range k).filterMap λ(m:Nat)=>xs[((i:Int)+(m:Int)*1).toNat]?).toArray=((xs.toList.drop i).take k).toArray:=by
 have e:(λ(m:Nat)=>xs[((i:Int)+(m:Int)*1).toNat]?)=λm=>xs[i+m]?:=by
  funext m;have :((i:Int)+(m:Int)*1).toNat=i+m:=by lia
  rw[this]
 rw[e];have :=pick_run xs i k;rw[List.filterMap_map]at this;have e2:((λx=>xs[x]?)∘λx=>i+x)=λm=>xs[i+m]?:=rfl;rw[e2]at this;rw[this]
theorem lL{t sl:Addr}{items:Array Value}{c d:Value}{lo hi:Option Int}{Q:Value->Shared->Prop}(ht:IsTup s.heap t items)(b:s.heap.IsSliceOf sl c d .none)(pl:IsPart c lo)(j:IsPart d hi)(hw:¬(dH items.size 0 lo=0/\dH items.size items.size hi=items.size))(h:Q (.ref s.heap.objs.size) {s with heap:=s.heap.push {cls:= .type "tuple",data:= .seq ((items.toList.drop (dH items.size 0 lo)).take (dH items.size items.size hi-dH items.size 0 lo)).toArray}})(hsz:items.size<=sizeLine):wpAny (model prog w) A (getItem (.ref t) (.ref sl)) Q E s:=by
 have a:sizeOk (.seq ((items.toList.drop (dH items.size 0 lo)).take (dH items.size items.size hi-dH items.size 0 lo)).toArray):=by show((items.toList.drop (dH items.size 0 lo)).take (dH items.size items.size hi-dH items.size 0 lo)).toArray.size<=sizeLine;rw[cE,List.length_take,vb,Array.length_toList];lia
 have l:dH items.size items.size hi<=items.size:=Vk _ _ (bf _) hi;obtain⟨os,i,f,k⟩:=id b;have e:s.TypeIs (.ref sl) "slice":=⟨os,i,f⟩;unfold getItem;try with_reducible refine iJ ?_
 first|refine ao (aU ?_)|skip
 refine ao (wpAny_sequenceKey ht.typeIs (by decide) ?_);refine ao (wpAny_callSpecial?_slot (name:=Str.ofString "__getitem__") ht.typeIs PyProof.Rows.slot_tuple_getitem (jO PyProof.Rows.slot_tuple_getitem ht.typeIs entry_tuple_getitem ?_ (args_tuple_getitem _ _)));show wpAny _ _ (Builtin.Tuple.tupleItemsOf (.ref t)>>=_) _ _ s;refine ao (tupleItemsOf_ ht ?_);refine ao (wpAny_typeOf e ?_);rw[if_pos (by decide)];refine ao (gV b pl j ?_);have g:¬((((dH items.size 0 lo:Nat):Int)==0&&(1:Int)==1&&(dH items.size items.size hi-dH items.size 0 lo)==items.size)=true):=by intro q;rw[bD,bD]at q;have n:((dH items.size 0 lo:Nat):Int)=0:=eq_of_beq q.1.1;have o:dH items.size items.size hi-dH items.size 0 lo=items.size:=eq_of_beq q.2;exact hw ⟨by lia,by lia⟩
 show wpAny _ _ (if(((dH items.size 0 lo:Nat):Int)==0&&(1:Int)==1&&(dH items.size items.size hi-dH items.size 0 lo)==items.size)=true then _ else _) _ _ s;rw[if_neg g,Kk];first|exact ao (m:=Builtin.Tuple.tupleExact _) (wpAny_newObj_type (aU ⟨_,rfl,aU h⟩) a)|exact ao (m:=Builtin.Tuple.tupleExact _) (wpAny_newObj_type (ao (aU (aU ⟨_,rfl,aU h⟩))) a)|exact ao (ao (m:=Builtin.Tuple.tupleExact _) (wpAny_newObj_type (aU (aU ⟨_,rfl,aU h⟩)) a))|exact ao (ao (m:=Builtin.Tuple.tupleExact _) (wpAny_newObj_type (aU ⟨_,rfl,aU h⟩) a))
end
end HT
end
section
namespace L2
open PySem PySem.Spec PyProof.Rows
noncomputable abbrev TO:=St->Hp->(Option Int->Hp->Prop)->Prop
noncomputable def PO(X:Cx)(e:Option Expr)(t:TO):Prop:=∀(pins:List (Addr×Obj))(s:Shared)(σ:St)(H:Hp)(Q:Option Int->Hp->Prop),Inv X pins σ H s->t σ H Q->wpAny (model X.prog X.w) X.A (evalPart e X.env) (λu s'=>∃o H',Inv X pins σ H' s'/\IsPart u o/\Q o H') X.xe s
noncomputable def O8:TO:=λ_ H Q=>Q none H
noncomputable def aar(t:TE):TO:=λσ H Q=>t σ H λx a=>∃i,x= .int i/\Q (some i) a
section
variable{X:Cx}{e:Expr}{te:TE}{lo hi:Option Expr}{tl th:TO}{pos p2:Pos}
theorem zK:PO X none O8:=by intro pins s σ H Q I h;rw[evalPart_none];exact aU ⟨none,H,I, .none,h⟩
theorem lQ(h:PE X e te):PO X (some e) (aar te):=by intro pins s σ H Q I hw;rw[evalPart_some];refine bH (h pins s σ H _ I hw) λu s1 f=>?_;obtain⟨x,a,b,d,c⟩:=f;obtain⟨i,rfl,q⟩:=c;obtain⟨t,rfl⟩:=d;exact⟨some i,a,b, .int i t,q⟩
noncomputable def PX(X:Cx)(r:V->Option Int->Option Int->Hp->VK->Prop):Prop:=∀(pins:List (Addr×Obj))(s:Shared)(σ:St)(H:Hp)(x:V)(v a b:Value)(lo hi:Option Int)(sl:Addr)(Q:VK),Inv X pins σ H s->RelV x v->s.heap.IsSliceOf sl a b .none->IsPart a lo->IsPart b hi->r x lo hi H Q->∃T id,typeLookup (.type T) "__getitem__"=pure (some (.builtin id))/\s.TypeIs v T/\wpAny (model X.prog X.w) X.A (getItem v (.ref sl)) (EP X pins σ Q) X.xe s
noncomputable def tSl(r:V->Option Int->Option Int->Hp->VK->Prop)(te:TE)(tl th:TO):TE:=λσ H Q=>te σ H λx a=>tl σ a λl b=>th σ b λu c=>r x l u c Q
theorem mS{r:V->Option Int->Option Int->Hp->VK->Prop}(y:PX X r)(t:PE X e te)(hl:PO X lo tl)(z:PO X hi th):PE X (.Subscript e (.Slice lo hi none p2) pos) (tSl r te tl th):=by intro pins s σ H Q I h;refine Subscript_ (bH (t pins s σ H _ I h) λv s1 f=>?_);obtain⟨x,i,k,E,B⟩:=f;refine wpAny_Slice (bH (hl pins s1 σ i _ k B) λc s2⟨l,j,m,pl,C⟩=>bH (z pins s2 σ j _ m C) λd a f=>?_);obtain⟨u,g,n,A,D⟩:=f;rw[evalPart_none];refine aU ?_;have o:Inv X pins σ g {a with heap:=a.heap.push {cls:= .type "slice",data:= .fields #[c,d, .none]}}:=n.kept (t':=a.toks) λb ob q=>bC _ q;obtain⟨T,id,p,ht,w⟩:=y pins {a with heap:=a.heap.push {cls:= .type "slice",data:= .fields #[c,d, .none]}} σ g x v c d l u a.heap.objs.size Q o E (Heap.IsSliceOf.new ..) pl A D;show wpAny (model X.prog X.w) X.A (subscriptTail e (.Slice lo hi none p2) v (.ref a.heap.objs.size)) (EP X pins σ Q) X.xe {a with heap:=a.heap.push {cls:= .type "slice",data:= .fields #[c,d, .none]}};exact tail_any (ops:=[.ref a.heap.objs.size,v]) ht p w (by with_unfolding_all rfl)
noncomputable def iZ(xs:List V)(lo hi:Option Int):List V:=(xs.drop (HT.dH xs.length 0 lo)).take (HT.dH xs.length xs.length hi-HT.dH xs.length 0 lo)
theorem oA(xs:List V)(lo hi:Option Int):(iZ xs lo hi).length<=xs.length:=by unfold iZ;rw[List.length_take,vb];lia
noncomputable def acm(K:PySem.W.Frag):V->Option Int->Option Int->Hp->VK->Prop:=λx lo hi H Q=>∃a xs,x= .ref a/\bQ K H a xs/\¬(HT.dH xs.length 0 lo=0/\HT.dH xs.length xs.length hi=xs.length)/\∀p,H p=none->Q (.ref p) (upd H p (.tup (iZ xs lo hi)))
theorem WC:PX X (acm X.K):=by
 intro pins s σ H x v j k lo hi sl Q I i d pl g h;obtain⟨a,xs,rfl,f,hw,q⟩:=h;cases i;obtain⟨its,r,ht,c⟩:=I.tuple f;have hlen:its.toArray.size=xs.length:=by rw[cE];exact r.length.symm
 refine⟨"tuple",_,PyProof.Rows.slot_tuple_getitem.lookup,ht.typeIs,?_⟩;refine HT.lL ht d pl g (by rw[hlen];exact hw) ?_ (by rw[hlen];exact c);rw[hlen];refine⟨.ref s.heap.objs.size,_,I.laid (t':=s.toks) (o:= .tup (iZ xs lo hi)) (λb ob q=>bC _ q) (bf _) ?_,rfl,q _ (I.bK.fresh (bf _))⟩;exact⟨cq (oA xs lo hi) c,_,(r.drop (HT.dH xs.length 0 lo)).take (HT.dH xs.length xs.length hi-HT.dH xs.length 0 lo),IsTup.new _ _⟩
noncomputable def X2(K:PySem.W.Frag):R2:=λx y H Q=>∃a b xs ys,x= .ref a/\y= .ref b/\bQ K H a xs/\bQ K H b ys/\xs≠[]/\xs.length+ys.length<=sizeLine/\(ys=[]->Q (.ref a) H)/\(ys≠[]->∀p,H p=none->Q (.ref p) (upd H p (.tup (xs++ys))))
theorem Vals.sG{xs:List V}{us:List Value}(r:Vals xs us):us=[]↔xs=[]:=by cases r with|nil=>simp|cons _ _=>simp
theorem Qu:mf X (binaryOp .Add) (X2 X.K):=by intro pins s σ H x y v u Q I l m h;obtain⟨a,b,xs,ys,rfl,rfl,ha,hb,g,f,j,k⟩:=h;cases l;cases m;obtain⟨its,d,i,_⟩:=I.tuple ha;obtain⟨n,c,p2,_⟩:=I.tuple hb;refine HT.Q3 i p2 (λz=>g (d.sG.mp z)) (λz=>⟨.ref a,H,I,rfl,j (c.sG.mp z)⟩) (λz=>?_) (by rw[<-d.length,<-c.length];exact f);refine⟨.ref s.heap.objs.size,_,I.laid (t':=s.toks) (o:= .tup (xs++ys)) (λb ob q=>bC _ q) (bf _) ?_,rfl,k (λw=>z (c.sG.mpr w)) _ (I.bK.fresh (bf _))⟩;exact⟨by rw[iQ];exact f,_,d.append c,IsTup.new _ _⟩
end
noncomputable def Od(n:Nat)(i:Int):Option Nat:=if 0<=i then(if i<n then some i.toNat else none)else if-(n:Int)<=i then some (i+n).toNat else none
noncomputable def Du{a:Type}(xs:List a)(i:Int):Option a:=(Od xs.length i).bind λj=>xs[j]?
theorem HC{n:Nat}{i:Int}{j:Nat}(h:Od n i=some j):seqIndex? i n=some j/\j<n/\-(n:Int)<=i/\i<n:=by
 unfold Od at h;by_cases a:0<=i
 ·rw[if_pos a]at h;by_cases h1:i<n;·rw[if_pos h1]at h;have e:i.toNat=j:=Option.some.inj h;exact⟨by rw[seqIndex_of a h1,e],by lia,by lia,h1⟩
  ·rw[if_neg h1]at h;cases h
 ·rw[if_neg a]at h;by_cases h1:-(n:Int)<=i;·rw[if_pos h1]at h;have e:(i+n).toNat=j:=Option.some.inj h;exact⟨by rw[seqIndex_neg (by lia) h1,e],by lia,h1,by lia⟩
  ·rw[if_neg h1]at h;cases h
theorem Gx{a:Type}{xs:List a}{i:Int}{v:a}(h:Du xs i=some v):∃j,seqIndex? i xs.length=some j/\xs[j]?=some v/\j<xs.length/\-(xs.length:Int)<=i/\i<xs.length:=by unfold Du at h;cases e:Od xs.length i with|none=>rw[e]at h;cases h|some j=>rw[e]at h;obtain⟨h1,h2,h3,h4⟩:=HC e;exact⟨j,h1,h,h2,h3,h4⟩
theorem aH{a:Type}{xs:List a}{j:Nat}{v:a}(h:xs[j]?=some v):Du xs (j:Int)=some v:=by
 have b:j<xs.length:=(List.getElem?_eq_some_iff.mp h).1;have e:Od xs.length (j:Int)=some j:=by unfold Od;rw[if_pos (by lia),if_pos (by lia)];simp
 unfold Du;rw[e];exact h
theorem ME{a:Type}(xs:List a)(v:a):Du (xs++[v]) (-1)=some v:=by
 have hl:(xs++[v]).length=xs.length+1:=by simp
 have e:Od (xs++[v]).length (-1)=some xs.length:=by unfold Od;rw[hl,if_neg (by decide),if_pos (by lia)];congr 1;lia
 unfold Du;rw[e];show(xs++[v])[xs.length]?=some v;simp
def OO(b:Expr):Prop:=∀o i,subscripted b false o i=operate [o,i] (getItem o i)
noncomputable def IxR(X:Cx)(r:R2):Prop:=∀(value slice:Expr)(pins:List (Addr×Obj))(s:Shared)(σ:St)(H:Hp)(x y:V)(v u:Value)(Q:VK),Inv X pins σ H s->RelV x v->RelV y u->r x y H Q->subscripted slice false v u=operate [v,u] (getItem v u)->wpAny (model X.prog X.w) X.A (subscriptTail value slice v u) (EP X pins σ Q) X.xe s
noncomputable def MtR(X:Cx)(id:String)(r:V->List V->Hp->VK->Prop):Prop:=∀(pins:List (Addr×Obj))(s:Shared)(σ:St)(H:Hp)(x:V)(xs:List V)(v:Value)(us:List Value)(Q:VK),Inv X pins σ H s->RelV x v->Vals xs us->r x xs H Q->wpAny (model X.prog X.w) X.A (call (.builtin id) (v::us)) (EP X pins σ Q) X.xe s
section
variable{X:Cx}{a b:Expr}{ta tb:TE}{pos:Pos}
theorem aZ{r:R2}(e:IxR X r)(ha:PE X a ta)(hb:PE X b tb)(f:OO b):PE X (.Subscript a b pos) (Xm r ta tb):=by intro pins s σ H Q I h;exact Subscript_ (Ws ha hb I h λv u s2 x y c d g i q=>e a b pins s2 σ c x y v u Q d g i q (f _ _))
noncomputable def Z1(K:PySem.W.Frag):R2:=λx y H Q=>∃p xs i v,x= .ref p/\y= .int i/\bI K H p xs/\Du xs i=some v/\Q v H
noncomputable def Z4(K:PySem.W.Frag):R2:=λx y H Q=>∃p xs i v,x= .ref p/\y= .int i/\bQ K H p xs/\Du xs i=some v/\Q v H
theorem eO:IxR X (Z1 X.K):=by
 intro value slice pins s σ H x y v u Q I l m h f;obtain⟨p,xs,i,z,rfl,rfl,hq,g,q⟩:=h;cases l;obtain⟨t,rfl⟩:=m;obtain⟨its,r,pl,n⟩:=I.list hq;obtain⟨j,h1,h2,h3,h4,h5⟩:=Gx g;obtain⟨w,d,k⟩:=r.get h2;have hl:=r.length;have hn:=uw;have fin:EP X pins σ Q w s:=⟨z,H,I,k,q⟩;by_cases e:0<=i
 ·have c:i.toNat=j:=by rw[seqIndex_of e h5]at h1;exact Option.some.inj h1
  exact item_listR pl.isList e (by lia) (by rw[c];simpa using d) fin f
 ·have c:(i+(its.toArray.size:Int)).toNat=j:=by rw[seqIndex_neg (by lia) h4]at h1;rw[cE,<-hl];exact Option.some.inj h1
  exact subscriptTail_builtinR (x:=w) pl.isList.typeIs slot_list_getitem.lookup (wpAny_getItem_list_neg (Q:=λr s'=>r=w/\EP X pins σ Q r s') pl.isList (by lia) (by rw[cE]<;>lia) (by lia) (by rw[c];simpa using d) ⟨rfl,fin⟩) f
theorem aW:IxR X (Z4 X.K):=by intro value slice pins s σ H x y v u Q I g k h e;obtain⟨p,xs,i,z,rfl,rfl,hq,d,q⟩:=h;cases g;obtain⟨t,rfl⟩:=k;obtain⟨its,r,pl,l⟩:=I.tuple hq;obtain⟨j,h1,h2,h3,h4,h5⟩:=Gx d;obtain⟨w,c,f⟩:=r.get h2;have hl:=r.length;have hn:=uw;have fin:EP X pins σ Q w s:=⟨z,H,I,f,q⟩;exact subscriptTail_builtinR (x:=w) pl.typeIs slot_tuple_getitem.lookup (getItem_tuple (j:=j) (Q:=λr s'=>r=w/\EP X pins σ Q r s') pl (by lia) (by lia) (by rw[cE,<-hl];exact h1) (by simpa using c) ⟨rfl,fin⟩) e
theorem Ed(its:List Value)(n j:Nat)(u:Value):Obj.mapSeq (·.setIfInBounds j u) {cls:= .type "list",data:= .seq its.toArray n}={cls:= .type "list",data:= .seq (its.set j u).toArray n}:=by simp[Obj.mapSeq]
theorem Inv.lst{pins:List (Addr×Obj)}{σ:St}{H:Hp}{s:Shared}{p:Addr}{xs:List V}(I:Inv X pins σ H s)(h:H p=some (.lst xs)):∃(its:List Value)(n:Nat),Vals xs its/\s.heap.get? p=some {cls:= .type "list",data:= .seq its.toArray n}/\xs.length<=sizeLine:=by obtain⟨z,its,n,r,e⟩:=I.bK p _ h;exact⟨its,n,r,e,z⟩
theorem Inv.Us{pins:List (Addr×Obj)}{σ:St}{H:Hp}{s:Shared}{p:Addr}{xs ys:List V}{its its':List Value}{n c:Nat}{f:Obj->Obj}(I:Inv X pins σ H s)(h:H p=some (.lst xs))(g:s.heap.get? p=some {cls:= .type "list",data:= .seq its.toArray n})(d:f {cls:= .type "list",data:= .seq its.toArray n}={cls:= .type "list",data:= .seq its'.toArray c})(r:Vals ys its')(i:ys.length<=sizeLine)(t:Nat):Inv X pins σ (upd H p (.lst ys)) {s with heap:=s.heap.update p f,toks:=t}:=by
 have e:(s.heap.update p f).get? p=some {cls:= .type "list",data:= .seq its'.toArray c}:=by rw[Av f g (by rw[d]<;>rfl),d]
 refine I.write (x:=p) (e:=p) (by rw[h];trivial) (.inl rfl) (λb u hb q=>(jJ _ _ (Ne.symm hb)).trans q) ⟨_,e⟩ ?_;exact⟨i,its',c,r,e⟩
noncomputable def X7:V->V->V->Hp->(Hp->Prop)->Prop:=λo i v H Q=>∃p xs k j,o= .ref p/\i= .int k/\H p=some (.lst xs)/\Od xs.length k=some j/\Q (upd H p (.lst (xs.set j v)))
theorem set_list:aaO X X7:=by
 intro pins s σ H o i v y x u Q I ro ri w h;obtain⟨p,xs,k,j,rfl,rfl,g,l,q⟩:=h;cases ro;obtain⟨t,rfl⟩:=ri;obtain⟨its,n,r,d,m⟩:=I.lst g;obtain⟨h1,h2,h3,h4⟩:=HC l;have hl:=r.length;have hn:=uw;have e:Inv X pins σ (upd H p (.lst (xs.set j v))) {s with heap:=s.heap.update p (Obj.mapSeq (·.setIfInBounds j u))}:=I.Us g d (Ed its n j u) (r.set w j) (by rw[List.length_set];exact m) s.toks;by_cases f:0<=k
 ·have c:k.toNat=j:=by rw[seqIndex_of f h4]at h1;exact Option.some.inj h1
  exact PySem.W.ki_setAt d f (by lia) (by rw[cE,<-hl];exact h4) (by rw[c];exact⟨_,e,q⟩)
 ·have c:(k+(its.toArray.size:Int)).toNat=j:=by rw[seqIndex_neg (by lia) h3]at h1;rw[cE,<-hl];exact Option.some.inj h1
  exact PySem.W.ki_setBack d (by lia) (by rw[cE,<-hl];exact h3) (by lia) (by rw[c];exact⟨_,e,q⟩)
theorem y0(lo hi:Option Int)(n:Nat):(sliceBounds lo hi none n).1=((HT.dH n 0 lo:Nat):Int)/\(sliceBounds lo hi none n).2.1=((HT.dH n n hi:Nat):Int)/\(sliceBounds lo hi none n).2.2=1:=by
 refine⟨?_,?_,rfl⟩
 ·cases lo with
   |none=>simp[sliceBounds,HT.dH]
   |some i=>
    simp only[sliceBounds,HT.dH,Option.getD_none,show(1:Int)>0 by decide,if_true];by_cases h:i<0;·simp only[h,if_true]<;>lia
    ·simp only[h,if_false]<;>lia
 ·cases hi with
   |none=>simp[sliceBounds,HT.dH]
   |some i=>
    simp only[sliceBounds,HT.dH,Option.getD_none,show(1:Int)>0 by decide,if_true];by_cases h:i<0;·simp only[h,if_true]<;>lia
    ·simp only[h,if_false]<;>lia
theorem vR(its:List Value)(lo hi:Option Int):slicePick its.toArray lo hi none=((its.drop (HT.dH its.length 0 lo)).take (HT.dH its.length its.length hi-HT.dH its.length 0 lo)).toArray:=by obtain⟨h1,h2,h3⟩:=y0 lo hi its.toArray.size;unfold slicePick;rw[h1,h2,h3];simp only[sliceRange_one,pick_run,cE]<;>rfl
noncomputable def ach(K:PySem.W.Frag):V->Option Int->Option Int->Hp->VK->Prop:=λx lo hi H Q=>∃a xs,x= .ref a/\bI K H a xs/\∀p,H p=none->Q (.ref p) (upd H p (.lst (iZ xs lo hi)))
theorem QW:PX X (ach X.K):=by intro pins s σ H x v i j lo hi sl Q I g c pl f h;obtain⟨a,xs,rfl,d,q⟩:=h;cases g;obtain⟨its,r,ht,e⟩:=I.list d;have hlen:=r.length;refine⟨"list",_,slot_list_getitem.lookup,ht.isList.typeIs,?_⟩;refine wpAny_getItem_list_slice ht.isList c pl f .none (by simp) ?_ (by rw[cE]<;>lia);rw[vR,<-hlen];refine⟨.ref s.heap.objs.size,_,I.laid (t':=s.toks) (o:= .lst (iZ xs lo hi)) (λb ob q=>bC _ q) (bf _) ?_,rfl,q _ (I.bK.fresh (bf _))⟩;exact⟨cq (oA xs lo hi) e,_,0,(r.drop (HT.dH xs.length 0 lo)).take (HT.dH xs.length xs.length hi-HT.dH xs.length 0 lo),eI _ rfl⟩
noncomputable def i7:V->Bool| .aO=>true| .bl _=>true| .int _=>true| .str _=>true|_=>false
noncomputable def Kf:V->V->Bool| .aO, .aO=>true| .bl a, .bl b=>a==b| .bl a, .int b=>(if a then 1 else 0)==b| .int a, .bl b=>a==(if b then 1 else 0)| .int a, .int b=>a==b| .str a, .str b=>a==b|_,_=>false
theorem NH{A:Around}{s:Shared}{y x:V}{u v:Value}(e:RelV y u)(c:RelV x v)(f:i7 y=true)(d:i7 x=true):SeqAt.EqAt A s u v (Kf y x):=by
 cases y with
  |aO=>cases e;cases x with|aO=>cases c;exact SeqAt.EqAt.same _|bl b=>cases c;exact SeqAt.EqAt.none_bool b|int b=>obtain⟨t,rfl⟩:=c;exact SeqAt.EqAt.none_int b t|str b=>obtain⟨t,rfl⟩:=c;exact SeqAt.EqAt.none_str b t|_=>exact absurd (show false=true from d) eC
  |bl a=>cases e;cases x with|aO=>cases c;exact SeqAt.EqAt.bool_none a|bl b=>cases c;exact SeqAt.EqAt.bool_bool a b|int b=>obtain⟨t,rfl⟩:=c;exact SeqAt.EqAt.bool_int a b t|str b=>obtain⟨t,rfl⟩:=c;exact SeqAt.EqAt.bool_str a b t|_=>exact absurd (show false=true from d) eC
  |int a=>obtain⟨t',rfl⟩:=e;cases x with|aO=>cases c;exact SeqAt.EqAt.int_none a t'|bl b=>cases c;exact SeqAt.EqAt.int_bool a t' b|int b=>obtain⟨t,rfl⟩:=c;exact SeqAt.EqAt.int_int a t' b t|str b=>obtain⟨t,rfl⟩:=c;exact SeqAt.EqAt.int_str a t' b t|_=>exact absurd (show false=true from d) eC
  |str a=>obtain⟨t',rfl⟩:=e;cases x with|aO=>cases c;exact SeqAt.EqAt.str_none a t'|bl b=>cases c;exact SeqAt.EqAt.str_bool a t' b|int b=>obtain⟨t,rfl⟩:=c;exact SeqAt.EqAt.str_int a t' b t|str b=>obtain⟨t,rfl⟩:=c;exact SeqAt.EqAt.str_str a t' b t|_=>exact absurd (show false=true from d) eC
  |_=>exact absurd (show false=true from f) eC
noncomputable def Qz(x:V)(u:Value):Bool:=match u with| .none=>Kf .aO x| .bool b=>Kf (.bl b) x| .int i _=>Kf (.int i) x| .str z _=>Kf (.str z) x|_=>false
theorem Ky{x y:V}{u:Value}(r:RelV y u)(f:i7 y=true):Qz x u=Kf y x:=by cases y with|aO=>cases r;rfl|bl b=>cases r;rfl|int i=>obtain⟨t,rfl⟩:=r;rfl|str z=>obtain⟨t,rfl⟩:=r;rfl|_=>exact absurd (show false=true from f) eC
theorem Ah{x:V}:∀{xs:List V}{us:List Value},Vals xs us->xs.all i7=true->us.any (Qz x)=xs.any λy=>Kf y x|_,_, .nil,_=>rfl|y::xs,u::us, .cons r t,f=>by rw[List.all_cons,bD]at f;rw[List.any_cons,List.any_cons,Ky r f.1,Ah t f.2]
theorem uB{A:Around}{s:Shared}{x:V}{v:Value}(e:RelV x v)(d:i7 x=true):∀{xs:List V}{us:List Value},Vals xs us->xs.all i7=true->∀u∈us,SeqAt.EqAt A s u v (Qz x u)
 |_,_, .nil,_=>λu c=>by cases c
 |y::xs,u::us, .cons r t,f=>λg c=>by
  rw[List.all_cons,bD]at f;rcases List.mem_cons.mp c with rfl|c;·rw[Ky r f.1];exact NH r e f.1 d
  ·exact uB e d t f.2 g c
noncomputable def Xu(x:V)(xs:List V):Bool:=xs.any λy=>Kf y x
noncomputable def rIn(K:PySem.W.Frag)(neg:Bool):R2:=λx y H Q=>∃p xs,y= .ref p/\(bI K H p xs\/bQ K H p xs)/\i7 x=true/\xs.all i7=true/\Q (.bl (if neg then !Xu x xs else Xu x xs)) H
theorem m8:mf X (compareOp .In) (rIn X.K false):=by
 intro pins s σ H x y v u Q I d f h;obtain⟨p,xs,rfl,hq,c,fs,q⟩:=h;cases f;rcases hq with hq|hq;·obtain⟨its,r,pl,e⟩:=I.list hq;refine SeqAt.in_listAt (Qz x) pl.isList (λw hw=>uB d c r fs w (by simpa using hw)) ⟨.bl _,H,I,rfl,?_⟩;rw[show its.toArray.any (Qz x)=its.any (Qz x)by simp,Ah r fs];exact q
 ·obtain⟨its,r,pl,e⟩:=I.tuple hq;refine SeqAt.in_tupleAt (Qz x) pl (λw hw=>uB d c r fs w (by simpa using hw)) ⟨.bl _,H,I,rfl,?_⟩;rw[show its.toArray.any (Qz x)=its.any (Qz x)by simp,Ah r fs];exact q
theorem aF:iF X (.builtin "len") (λxs H Q=>∃p ys,xs=[.ref p]/\(bI X.K H p ys\/bQ X.K H p ys)/\Q (.int ys.length) H):=by
 intro pins s σ H xs us Q I r h;obtain⟨p,ys,rfl,hq,q⟩:=h;obtain⟨u,rfl,e⟩:=vals1 r;cases e;have hn:=uw;rcases hq with hq|hq;·obtain⟨its,c,pl,d⟩:=I.list hq;have hlen:=c.length;exact Calls.call_len_list pl.isList (by simp only[cE]<;>lia) ⟨.int ys.length,H,I.tok _,⟨s.toks+1,by rw[cE,hlen]⟩,q⟩
 ·obtain⟨its,c,pl,d⟩:=I.tuple hq;have hlen:=c.length;exact len_tuple pl (by simp only[cE]<;>lia) ⟨.int ys.length,H,I.tok _,⟨s.toks+1,by rw[cE,hlen]⟩,q⟩
theorem lj:iF X (.builtin "len") (λxs H Q=>∃z,xs=[.str z]/\z.length<=sizeLine/\Q (.int z.length) H):=by intro pins s σ H xs us Q I r h;obtain⟨z,rfl,c,q⟩:=h;obtain⟨u,rfl,t,rfl⟩:=vals1 r;have hn:=uw;exact len_str (by lia) ⟨.int z.length,H,I.tok _,⟨_,rfl⟩,q⟩
theorem xF:iF X (.type "list") (λxs H Q=>∃p ys,xs=[.ref p]/\(bI X.K H p ys\/bQ X.K H p ys)/\∀l,H l=none->Q (.ref l) (upd H l (.lst ys))):=by
 intro pins s σ H xs us Q I r h;obtain⟨p,ys,rfl,hq,q⟩:=h;obtain⟨u,rfl,i⟩:=vals1 r;cases i;have fin:∀(its:List Value),Vals ys its->ys.length<=sizeLine->∀(h':Heap)(c:Nat),(∀b o',s.heap.get? b=some o'->h'.get? b=some o')->h'.get? s.heap.objs.size=some {cls:= .type "list",dict:=none,data:= .seq its.toArray c,slots:=#[]}->EP X pins σ Q (.ref s.heap.objs.size) {s with heap:=h'}:=λits d f h' c kp e=>⟨.ref s.heap.objs.size,_,I.laid (t':=s.toks) kp (bf _) (show bZ X.prog X.w _ h' _ (.lst ys)from⟨f,its,c,d,e⟩),rfl,q _ (I.bK.fresh (bf _))⟩;rcases hq with hq|hq;·obtain⟨its,d,pl,f⟩:=I.list hq;have hlen:=d.length;obtain⟨o,g,hc,n,hd⟩:=pl.isList;exact call_list_seq p (.inl rfl) g hc hd (λh' c kp e=>fin its d f h' c kp e) (by simp only[cE]<;>lia)
 ·obtain⟨its,d,pl,f⟩:=I.tuple hq;have hlen:=d.length;obtain⟨o,g,hc,n,hd⟩:=pl;exact call_list_seq p (.inr rfl) g hc hd (λh' c kp e=>fin its d f h' c kp e) (by simp only[cE]<;>lia)
theorem kf:iF X (.type "tuple") (λxs H Q=>∃p ys,xs=[.ref p]/\((bI X.K H p ys/\∀l,H l=none->Q (.ref l) (upd H l (.tup ys)))\/(bQ X.K H p ys/\Q (.ref p) H))):=by
 intro pins s σ H xs us Q I r h;obtain⟨p,ys,rfl,h⟩:=h;obtain⟨u,rfl,i⟩:=vals1 r;cases i;rcases h with⟨hq,q⟩|⟨hq,q⟩;·obtain⟨its,c,pl,f⟩:=I.list hq;have hlen:=c.length;refine call_tuple_list pl.isList (λh' kp=>?_) (by simp only[cE]<;>lia);have d:Inv X pins σ H {s with heap:=h'}:=I.kept (t':=s.toks) kp;have g:Inv X pins σ (upd H h'.objs.size (.tup ys)) {s with heap:=h'.push {cls:= .type "tuple",data:= .seq its.toArray}}:=d.laid (t':=s.toks) (λb o e=>bC _ e) (bf _) (show bZ X.prog X.w _ _ _ (.tup ys)from⟨f,its,c,IsTup.new _ _⟩);exact⟨.ref h'.objs.size,_,g,rfl,q _ (d.bK.fresh (bf _))⟩
 ·obtain⟨its,c,pl,f⟩:=I.tuple hq;exact call_tuple_same pl ⟨.ref p,H,I,rfl,q⟩
def tyV(K:PySem.W.Frag)(T:String)(x:V)(H:Hp):Prop:=match x with| .str _=>T="str"| .int _=>T="int"| .ref p=>(T="list"/\∃xs,bI K H p xs)\/(T="tuple"/\∃o,K.lookup p=some o/\o.cls= .type "tuple"/\o.dict=none)\/(T="dict"/\((∃aE,H p=some (.dK aE))\/∃aE,H p=some (.dT aE)))\/(T="set"/\∃S n,H p=some (.set S n))|_=>False
theorem Nk{pins:List (Addr×Obj)}{σ:St}{H:Hp}{s:Shared}{T:String}{x:V}{v:Value}(I:Inv X pins σ H s)(r:RelV x v)(ty:tyV X.K T x H):s.TypeIs v T/\∀a,v= .ref a->∃ob,s.heap.get? a=some ob/\ob.dict=none:=by
 cases x with
  |str z=>obtain⟨t,rfl⟩:=r;cases(show T="str"from ty);exact⟨typeIs_str s z t,λ_ e=>nomatch e⟩
  |int i=>obtain⟨t,rfl⟩:=r;cases(show T="int"from ty);exact⟨typeIs_int s i t,λ_ e=>nomatch e⟩
  |ref p=>
   cases r;rcases ty with⟨rfl,xs,hq⟩|⟨rfl,o,d,hc,hd⟩|⟨rfl,d⟩|⟨rfl,S,n,d⟩;·obtain⟨its,_,pl,_⟩:=I.list hq;refine⟨pl.isList.typeIs,λa e=>?_⟩;cases e;obtain⟨o,n,e,c,hd,_⟩:=pl;exact⟨o,e,hd⟩
   ·refine⟨⟨o,I.gL p o d,hc⟩,λa e=>?_⟩;cases e;exact⟨o,I.gL _ o d,hd⟩
   ·have z:∃o,s.heap.get? p=some o/\o.ExactDict:=by
     rcases d with⟨aE,d⟩|⟨aE,d⟩;·obtain⟨_,_,_,_,o,_,_,e,ex,_⟩:=I.bK p _ d;exact⟨o,e,ex⟩
     ·obtain⟨_,_,_,_,o,_,_,e,ex,_⟩:=I.bK p _ d;exact⟨o,e,ex⟩
    obtain⟨o,e,ex⟩:=z;refine⟨⟨o,e,ex.1⟩,λa e2=>?_⟩;cases e2;exact⟨o,e,ex.2.1⟩
   ·obtain⟨o,_,_,_,e,ex,_⟩:=I.bK p _ d;refine⟨⟨o,e,ex.1⟩,λa e2=>?_⟩;cases e2;exact⟨o,e,ex.2.1⟩
  |_=>exact False.elim ty
noncomputable def abb(K:PySem.W.Frag)(T:String)(r:V->List V->Hp->VK->Prop)(to:TE):TE:=λσ H Q=>to σ H λx c=>tyV K T x c/\r x [] c Q
noncomputable def tBM(K:PySem.W.Frag)(T:String)(r:V->List V->Hp->VK->Prop)(to:TE)(t:TA):TE:=λσ H Q=>to σ H λx c=>tyV K T x c/\t σ c λxs d=>r x xs d Q
variable{o e:Expr}{es:List Expr}{to:TE}{t:TA}{name:Str}{apos dy:Pos}{T id:String}{r:V->List V->Hp->VK->Prop}
theorem VA(l:PlainAttrs T)(slot:Slot T name id)(k:typeOf (.builtin id)=pure (.type "method_descriptor"))(hm:MtR X id r)(j:PE X o to)(g:attributeBase o name X.env (eval o X.env)=eval o X.env:=by rfl)(i:(apos.endLine==dy.line)=true:=by rfl):PE X (.Call (.Attribute o name apos) [] [] dy) (abb X.K T r to):=by intro pins s σ H Q I h;refine wpAny_Call_method0_late g i (bH (j pins s σ H _ I h) λv s1 n=>?_);obtain⟨x,f,c,d,ty,m⟩:=n;obtain⟨h1,h2⟩:=Nk c d ty;exact⟨T,id,l,slot,k,h1,h2,Calls.callWith_builtin rfl (PySem.evalArgs_none (hm pins s1 σ f x [] v [] Q c d .nil m))⟩
theorem xh(w:PlainAttrs T)(slot:Slot T name id)(u:typeOf (.builtin id)=pure (.type "method_descriptor"))(hm:MtR X id r)(n:PE X o to)(ha:PA X (e::es) t)(k:attributeBase o name X.env (eval o X.env)=eval o X.env:=by rfl)(l:((backTo dy (starEach (e::es) X.env)).all (λx=>!x.1)&&(backToKw dy (keywordEach [] X.env)).all (λx=>x.1.isSome)&&decide ((e::es).length+([]:List Keyword).length+(if([]:List Keyword).isEmpty then 0 else 1)<30))=true:=by rfl)(m:(apos.endLine==dy.line)=true:=by rfl)(q:starEach (e::es) X.env=(false,eval e X.env)::starEach es X.env:=by rfl)(p:(backTo dy (starEach es X.env)).any (·.1)=false:=by rfl):PE X (.Call (.Attribute o name apos) (e::es) [] dy) (tBM X.K T r to t):=by intro pins s σ H Q I h;refine wpAny_Call_method_late k l m rfl (bH (n pins s σ H _ I h) λv s1 B=>?_);obtain⟨x,g,c,f,ty,y⟩:=B;obtain⟨h1,h2⟩:=Nk c f ty;refine⟨T,id,w,slot,u,h1,h2,?_⟩;have d:=ha dy pins s1 σ g _ c y;rw[q]at d⊢;refine Calls.callWith_builtin (by show(false||(backTo dy (starEach es X.env)).any (·.1))=false;rw[p]<;>rfl) (Calls.evalArgs_plain ?_);exact bH d λus s2⟨vs,i,j,A,z⟩=>hm pins s2 σ i x vs v us Q j f A z
end
noncomputable def MtM(X:Cx)(id:String)(r:V->List V->Hp->VK->Prop):Prop:=∀(pins:List (Addr×Obj))(s:Shared)(σ:St)(H:Hp)(x:V)(xs:List V)(v:Value)(us:List Value)(Q:VK),Inv X pins σ H s->RelV x v->Vals xs us->r x xs H Q->wpAny (model X.prog X.w) X.A (call (.builtin id) (v::us)) (EP X pins σ Q) X.xe s
theorem Vals.one{x:V}{us:List Value}(h:Vals [x] us):∃u,us=[u]/\RelV x u:=by cases h with|cons r e=>cases e;exact⟨_,rfl,r⟩
theorem Vals.two{x y:V}{us:List Value}(h:Vals [x,y] us):∃u v,us=[u,v]/\RelV x u/\RelV y v:=by cases h with|cons r t=>cases t with|cons q e=>cases e;exact⟨_,_,rfl,r,q⟩
theorem Vals.zero:∀{us:List Value},Vals [] us->us=[]|_, .nil=>rfl
theorem Vals.dropLast{xs:List V}{us:List Value}(h:Vals xs us):Vals xs.dropLast us.dropLast:=by induction h with|nil=>exact .nil|cons r t a=>cases t with|nil=>exact .nil|cons q t'=>exact .cons r a
theorem Eb{d:Type}(l:List d):l.eraseIdx (l.length-1)=l.dropLast:=by
 induction l with
  |nil=>rfl
  |cons a r c=>
   cases r with
    |nil=>rfl
    |cons b r=>
     have e:(a::b::r).length-1=((b::r).length-1)+1:=by have h1:(a::b::r).length=r.length+2:=rfl;have h2:(b::r).length=r.length+1:=rfl;lia
     rw[e,List.eraseIdx_cons_succ,c];all_goals rfl
section
variable{X:Cx}{pins:List (Addr×Obj)}{σ:St}{H:Hp}{s:Shared}{l b:Addr}{xs ys zs:List V}
theorem Inv.WV{its its':List Value}{n:Nat}{f:Array Value->Array Value}{t':Nat}(I:Inv X pins σ H s)(hH:H l=some (.lst xs))(e:s.heap.get? l=some {cls:= .type "list",data:= .seq its.toArray n})(a:f its.toArray=its'.toArray)(d:Vals ys its')(g:ys.length<=sizeLine):Inv X pins σ (upd H l (.lst ys)) {s with heap:=s.heap.update l (Obj.mapSeq f),toks:=t'}:=by have q:=PySem.IsL.update e f;rw[a]at q;refine I.write (x:=l) (e:=l) (by rw[hH];exact trivial) (.inl rfl) (λb' u hb c=>(jJ s.heap (Obj.mapSeq f) (Ne.symm hb)).trans c) ⟨_,q⟩ ?_;exact⟨g,its',_,d,q⟩
theorem Inv.Pf{its:List Value}{t':Nat}(I:Inv X pins σ H s)(a:Vals ys its)(c:ys.length<=sizeLine):Inv X pins σ (upd H s.heap.objs.size (.lst ys)) {s with heap:=s.heap.push {cls:= .type "list",data:= .seq its.toArray},toks:=t'}:=I.laid (λ_ _ q=>bC _ q) (bf _) ⟨c,its,0,a,eI _ rfl⟩
theorem Inv.fresh(I:Inv X pins σ H s):H s.heap.objs.size=none:=I.bK.fresh (bf _)
theorem Inv.PN(I:Inv X pins σ H s)(hH:H l=some (.lst xs)):xs.length<=sizeLine/\∃(its:List Value)(n:Nat),Vals xs its/\xs.length=its.length/\s.heap.get? l=some {cls:= .type "list",data:= .seq its.toArray n}:=by obtain⟨z,its,n,r,e⟩:=I.bK l _ hH;exact⟨z,its,n,r,r.length,e⟩
theorem Kg{n:Nat}(h:n<=sizeLine):Builtin.List.listTooLong n=false:=by unfold Builtin.List.listTooLong;exact decide_eq_false (by lia)
end
section
variable{X:Cx}
noncomputable def ON:V->List V->Hp->VK->Prop:=λx vs H Q=>∃l xs y,x= .ref l/\vs=[y]/\H l=some (.lst xs)/\xs.length<sizeLine/\Q .aO (upd H l (.lst (xs++[y])))
theorem gY:MtM X "list.append" ON:=by intro pins s σ H x vs v us Q I c b h;obtain⟨l,xs,y,rfl,rfl,hH,d,q⟩:=h;cases c;obtain⟨u,rfl,a⟩:=b.one;obtain⟨z,its,n,r,hl,e⟩:=I.PN hH;refine call_meets F.slot_list_append ⟨_,e,rfl⟩ F.entry_list_append (F.args_list_append_2 _ _) (PySem.list_append l its.toArray n u (by rw[cE];lia)) ⟨e,?_⟩;refine⟨.aO,_,I.WV (its':=its++[u]) hH e (by simp) (r.append (.cons a .nil)) ?_,rfl,q⟩;rw[iQ,List.length_singleton];lia
noncomputable def Qo:V->List V->Hp->VK->Prop:=λx vs H Q=>∃l b xs a,x= .ref l/\vs=[.ref b]/\H l=some (.lst xs)/\H b=some (.lst a)/\xs.length+a.length<=sizeLine/\Q .aO (upd H l (.lst (xs++a)))
theorem Jh:MtM X "list.extend" Qo:=by
 intro pins s σ H x vs v us Q I k j h;obtain⟨l,b,xs,t,rfl,rfl,hH,c,o,q⟩:=h;cases k;obtain⟨u,rfl,i⟩:=j.one;cases i;obtain⟨z,its,n,r,hl,e⟩:=I.PN hH;obtain⟨p,a,f,g,m,e2⟩:=I.PN c;have hsz:its.toArray.size+a.toArray.size<=sizeLine:=by rw[cE,cE];lia
 have d:¬(!its.toArray.isEmpty&&Builtin.List.listTooLong (its.toArray.size+a.toArray.size))=true:=by rw[Kg hsz,Bool.and_false];exact eC
 refine call_meets F.slot_list_extend ⟨_,e,rfl⟩ F.entry_list_extend (F.args_list_extend_2 _ _) (AutoSeq1.list_extend_list_list_0 l its.toArray n b a.toArray f d (by rw[cE];lia) (by lia)) ⟨e,e2,?_⟩;refine⟨.aO,_,I.WV (its':=its++a) hH e (by simp) (r.append g) ?_,rfl,q⟩;rw[iQ];lia
noncomputable def ab_:V->List V->Hp->VK->Prop:=λx vs H Q=>∃l xs y,x= .ref l/\vs=[]/\H l=some (.lst xs)/\xs[xs.length-1]?=some y/\Q y (upd H l (.lst xs.dropLast))
theorem UU:MtM X "list.pop" ab_:=by
 intro pins s σ H x vs v us Q I i g h;obtain⟨l,xs,y,rfl,rfl,hH,c,q⟩:=h;cases i;have b:=g.zero;subst b;obtain⟨z,its,n,r,hl,e⟩:=I.PN hH;obtain⟨u,a,f⟩:=r.get c;have d:its.toArray[its.toArray.size-1]?=some u:=by show its.toArray[its.length-1]?=some u;rw[<-Array.getElem?_toList,<-hl];exact a
 refine call_meets F.slot_list_pop ⟨_,e,rfl⟩ F.entry_list_pop (F.args_list_pop_1 _) (MeetsSeq.list_pop_last l its.toArray n u d (by rw[cE];lia)) ⟨e,?_⟩;refine⟨y,_,I.WV (its':=its.dropLast) hH e ?_ r.dropLast ?_,f,q⟩;·show its.toArray.eraseIdxIfInBounds (its.toArray.size-1)=its.dropLast.toArray;rw[cE,List.eraseIdxIfInBounds_toArray,Eb]
 ·rw[List.length_dropLast];lia
end
section
variable{prog:Program}{w:World}{A:Around}{E:Value->Shared->Prop}{s:Shared}
end
section
variable{X:Cx}
end
section
variable{κ:Type}[DecidableEq κ]
noncomputable def d9(aE:List (κ×V))(k:κ):Option V:=(aE.find? λa=>decide (a.1=k)).map (·.2)
noncomputable def putK(aE:List (κ×V))(k:κ)(v:V):List (κ×V):=if(aE.any λa=>decide (a.1=k))=true then aE.map (λa=>if a.1=k then(a.1,v)else a)else aE++[(k,v)]
theorem cZ{p:κ×V}{r:List (κ×V)}{k:κ}(e:p.1=k):d9 (p::r) k=some p.2:=by simp[d9,List.find?_cons,e]
theorem cT{p:κ×V}{r:List (κ×V)}{k:κ}(e:¬p.1=k):d9 (p::r) k=d9 r k:=by simp[d9,List.find?_cons,e]
theorem jh(k:κ):∀aE:List (κ×V),(aE.any λa=>decide (a.1=k))=(d9 aE k).isSome
 |[]=>rfl
 |p::r=>by
  rw[List.any_cons];by_cases e:p.1=k;·simp only[cZ e,decide_eq_true e,Bool.true_or,Option.isSome_some]
  ·rw[cT e,decide_eq_false e,Bool.false_or];exact jh k r
theorem Cr(k j:κ)(y:V):∀aE:List (κ×V),d9 (aE.map λa=>if a.1=k then(a.1,y)else a) j=(d9 aE j).map λx=>if j=k then y else x
 |[]=>rfl
 |p::r=>by
  have b:=Cr k j y r;rw[dQ];by_cases h:p.1=k
  ·rw[if_pos h];by_cases e:p.1=j;·rw[cZ (p:=(p.1,y)) e,cZ e,Option.map_some,if_pos (e.symm.trans h)]
   ·rw[cT (p:=(p.1,y)) e,cT e,b]
  ·rw[if_neg h];by_cases e:p.1=j;·rw[cZ (p:=p) e,cZ e,Option.map_some,if_neg (λz=>h (e.trans z))]
   ·rw[cT (p:=p) e,cT e,b]
theorem xi(k j:κ)(y:V):∀aE:List (κ×V),d9 aE k=none->d9 (aE++[(k,y)]) j=if j=k then some y else d9 aE j
 |[],_=>by
  by_cases e:k=j;·rw[if_pos e.symm];exact cZ (p:=(k,y)) e
  ·rw[if_neg (λz=>e z.symm)];exact cT (p:=(k,y)) e
 |p::r,hn=>by
  rw[List.cons_append];have a:¬p.1=k:=λz=>by rw[cZ z]at hn;cases hn
  rw[cT a]at hn;have b:=xi k j y r hn;by_cases e:p.1=j;·rw[cZ e,cZ e,if_neg (λz=>a (e.trans z))]
  ·rw[cT e,cT e,b]
theorem lV(aE:List (κ×V))(k j:κ)(y:V):d9 (putK aE k y) j=if j=k then some y else d9 aE j:=by
 unfold putK;by_cases a:(aE.any λc=>decide (c.1=k))=true
 ·rw[if_pos a,Cr];rw[jh]at a;by_cases e:j=k;·obtain⟨x,b⟩:=Option.isSome_iff_exists.mp a;rw[if_pos e,e,b,Option.map_some,if_pos rfl]
  ·rw[if_neg e];cases d9 aE j with|none=>rfl|some x=>rw[Option.map_some,if_neg e]
 ·rw[if_neg a];refine xi k j y aE ?_;rw[jh]at a;cases q:d9 aE k with|none=>rfl|some x=>rw[q]at a;exact(a rfl).elim
theorem ji(aE:List (κ×V))(k:κ)(v:V):(putK aE k v).length<=aE.length+1:=by
 unfold putK;split;·rw[cy];lia
 ·rw[iQ,dY,List.length_nil];lia
theorem jU.m_{o:Option V}{u:Option Value}(r:jU o u):o.isSome=u.isSome:=by
 cases o with
  |none=>cases u with|none=>rfl|some _=>exact(show False from r).elim
  |some _=>cases u with|none=>exact(show False from r).elim|some _=>rfl
theorem KV.val{aE:List (κ×V)}{vs:List (κ×Value)}(r:KV aE vs)(k:κ):jU (d9 aE k) (valueAt vs k):=by
 unfold KV at r;induction r with
  |nil=>exact True.intro
  |@cons p q ps a h t c=>
   obtain⟨h1,h2⟩:=h;by_cases e:p.1=k
   ·have e':q.1=k:=h1.symm.trans e;have b:valueAt (q::a) k=some q.2:=by simp[valueAt,List.find?_cons,e']
    rw[cZ e,b];exact h2
   ·have e':¬q.1=k:=λz=>e (h1.trans z);have b:valueAt (q::a) k=valueAt a k:=by simp[valueAt,List.find?_cons,e']
    rw[cT e,b];exact c
theorem KV.any{aE:List (κ×V)}{vs:List (κ×Value)}(r:KV aE vs)(k:κ):(aE.any λa=>decide (a.1=k))=vs.any λa=>decide (a.1=k):=by unfold KV at r;induction r with|nil=>rfl|cons h t b=>rw[List.any_cons,List.any_cons,b,h.1]
theorem KV.Vb{aE:List (κ×V)}{vs:List (κ×Value)}(r:KV aE vs)(k:κ){y:V}{u:Value}(c:RelV y u):KV (aE.map λa=>if a.1=k then(a.1,y)else a) (vs.map λa=>if a.1=k then(a.1,u)else a):=by
 unfold KV at r⊢;induction r with
  |nil=>exact .nil
  |@cons p q ps d h t b=>
   rw[dQ,dQ];refine .cons ?_ b;obtain⟨h1,h2⟩:=h;by_cases e:p.1=k;·rw[if_pos e,if_pos (h1.symm.trans e)];exact⟨h1,c⟩
   ·rw[if_neg e,if_neg (λz=>e (h1.trans z))];exact⟨h1,h2⟩
theorem KV.put{aE:List (κ×V)}{vs:List (κ×Value)}(r:KV aE vs)(k:κ){y:V}{u:Value}(a:RelV y u):KV (putK aE k y) (stored vs k u):=by
 unfold putK stored;rw[r.any k];by_cases e:(vs.any λb=>decide (b.1=k))=true;·rw[if_pos e,if_pos e];exact r.Vb k a
 ·rw[if_neg e,if_neg e];exact Paired.snoc r ⟨rfl,a⟩
theorem KV.length{aE:List (κ×V)}{vs:List (κ×Value)}(r:KV aE vs):aE.length=vs.length:=Paired.length r
end
theorem Fv{P:Program}{w:World}{k:Key}{u:Value}(r:RelV (kV k) u):(c9 P w).is k u=true:=by cases k with|inl i=>obtain⟨t,e⟩:=(show∃t,u=Value.int i t from r);subst e;exact De P w i t|inr x=>obtain⟨t,e⟩:=(show∃t,u=Value.str x t from r);subst e;exact Bx P w x t
theorem wG{P:Program}{w:World}:∀{a:List Key}{us:List Value},Vals (a.map kV) us->ItemsAre (c9 P w) a us|[],_,r=>by rw[List.map_nil]at r;cases r;exact .nil|k::a,_,r=>by rw[dQ]at r;cases r with|cons h t=>exact .cons (Fv h) (wG t)
noncomputable abbrev KT(H:Hp):List (List Key×V)->List (List Key×Addr×Value)->Prop:=Paired λp q=>p.1=q.1/\H q.2.1=some (.tup (p.1.map kV))/\RelV p.2 q.2.2
theorem KT.val{H:Hp}{aE:List (List Key×V)}{xs:List (List Key×Addr×Value)}(r:KT H aE xs)(k:List Key):jU (d9 aE k) ((atKey xs k).map (·.2)):=by
 induction r with
  |nil=>exact True.intro
  |@cons p q ps a h t c=>
   obtain⟨h1,_,h2⟩:=h;by_cases e:p.1=k
   ·have e':q.1=k:=h1.symm.trans e;have b:atKey (q::a) k=some q.2:=by simp[atKey,List.find?_cons,e']
    rw[cZ e,b];exact h2
   ·have e':¬q.1=k:=λz=>e (h1.trans z);have b:atKey (q::a) k=atKey a k:=by simp[atKey,List.find?_cons,e']
    rw[cT e,b];exact c
theorem KT.Vb{H:Hp}{aE:List (List Key×V)}{xs:List (List Key×Addr×Value)}(r:KT H aE xs)(k:List Key){y:V}{u:Value}(c:RelV y u):KT H (aE.map λa=>if a.1=k then(a.1,y)else a) (xs.map (putAt k u)):=by
 induction r with
  |nil=>exact .nil
  |@cons p q ps d h t b=>
   rw[dQ,dQ];refine .cons ?_ b;obtain⟨h1,h2,h3⟩:=h;unfold putAt;by_cases e:p.1=k;·rw[if_pos e,if_pos (h1.symm.trans e)];exact⟨h1,h2,c⟩
   ·rw[if_neg e,if_neg (λz=>e (h1.trans z))];exact⟨h1,h2,h3⟩
theorem KT.put{H:Hp}{aE:List (List Key×V)}{xs:List (List Key×Addr×Value)}(r:KT H aE xs)(k:List Key){b:Addr}{y:V}{u:Value}(hb:H b=some (.tup (k.map kV)))(a:RelV y u):KT H (putK aE k y) (storedH xs k b u):=by
 have e:(aE.any λc=>decide (c.1=k))=(atKey xs k).isSome:=by rw[jh,(r.val k).m_,Option.isSome_map]
 unfold putK storedH;rw[e];by_cases q:(atKey xs k).isSome=true;·rw[if_pos q,if_pos q];exact r.Vb k a
 ·rw[if_neg q,if_neg q];exact Paired.snoc r ⟨rfl,hb,a⟩
theorem KT.keeps{H H':Hp}{aE:List (List Key×V)}{xs:List (List Key×Addr×Value)}(r:KT H aE xs)(ht:∀b ys,H b=some (.tup ys)->H' b=some (.tup ys)):KT H' aE xs:=Paired.VS r λ_ _ z=>⟨z.1,ht _ _ z.2.1,z.2.2⟩
section
variable{P:Program}{w:World}{H:Hp}{h:Heap}{a:Addr}
theorem RP{u:HO}(ok:iK P w H h)(e:Rd H a u):bZ P w H h a u:=e.ok ok
theorem Il{aE:List (Key×V)}(ok:iK P w H h)(e:Rd H a (.dK aE)):aE.length<=sizeLine/\(a==sysModules)=false/\∃vs,KV aE vs/\h.DictOf (c9 P w) a vs:=show bZ P w H h a (.dK aE)from RP ok e
theorem Yq{aE:List (Key×V)}(ok:iK P w H h)(e:H a=some (.dK aE)):aE.length<=sizeLine/\(a==sysModules)=false/\∃vs,KV aE vs/\h.DictOf (c9 P w) a vs:=Il ok (.inl e)
theorem A2{b:List Key}(ok:iK P w H h)(e:H a=some (.tup (b.map kV))):(tupleKind (c9 P w)).is h b a:=by obtain⟨_,its,r,o,h1,h2,n,h3⟩:=(show bZ P w H h a (.tup (b.map kV))from ok a _ e);exact⟨o,its.toArray,n,h1,h2,h3,by simpa using wG r⟩
theorem GU{aE:List (List Key×V)}(ok:iK P w H h)(e:Rd H a (.dT aE)):aE.length<=sizeLine/\(a==sysModules)=false/\∃xs,KT H aE xs/\h.DictOfH (tupleKind (c9 P w)) a xs:=by
 obtain⟨z,y,xs,r,o,es,ep,h1,h2,h3,h4,h5⟩:=(show bZ P w H h a (.dT aE)from RP ok e);refine⟨z,y,xs,r,o,es,ep,h1,h2,h3,h4,λx b=>?_,h5⟩;have all:∀{l:List (List Key×V)}{m:List (List Key×Addr×Value)},KT H l m->∀x∈m,(tupleKind (c9 P w)).is h x.1 x.2.1:=by
  intro l m q;induction q with
   |nil=>intro x b;exact nomatch b
   |@cons p q ps d hq t c=>
    intro x b;rcases List.mem_cons.mp b with e|b;·subst e;exact A2 ok (by rw[<-hq.1];exact hq.2.1)
    ·exact c x b
 exact all r x b
theorem YK{aE:List (List Key×V)}(ok:iK P w H h)(e:H a=some (.dT aE)):aE.length<=sizeLine/\(a==sysModules)=false/\∃xs,KT H aE xs/\h.DictOfH (tupleKind (c9 P w)) a xs:=GU ok (.inl e)
end
noncomputable def Dc(H:Hp)(a:Addr)(y:V)(r:Option V):Prop:=(∃aE k,Rd H a (.dK aE)/\y=kV k/\r=d9 aE k)\/∃aE k b,Rd H a (.dT aE)/\y= .ref b/\H b=some (.tup (k.map kV))/\r=d9 aE k
noncomputable def NR(H:Hp)(a:Addr)(y v:V)(H':Hp):Prop:=(∃aE k,H a=some (.dK aE)/\y=kV k/\aE.length<sizeLine/\H'=upd H a (.dK (putK aE k v)))\/∃aE k b,H a=some (.dT aE)/\y= .ref b/\H b=some (.tup (k.map kV))/\aE.length<sizeLine/\H'=upd H a (.dT (putK aE k v))
theorem Dc.k{H:Hp}{a:Addr}{aE:List (Key×V)}{k:Key}(e:H a=some (.dK aE)):Dc H a (kV k) (d9 aE k):= .inl ⟨aE,k, .inl e,rfl,rfl⟩
theorem NR.k{H:Hp}{a:Addr}{aE:List (Key×V)}{k:Key}{v:V}(e:H a=some (.dK aE))(hl:aE.length<sizeLine):NR H a (kV k) v (upd H a (.dK (putK aE k v))):= .inl ⟨aE,k,e,rfl,hl,rfl⟩
section
variable{X:Cx}{pins:List (Addr×Obj)}{σ:St}{H:Hp}{s:Shared}{a:Addr}{y v:V}{u r:Value}{o:Option V}{A:Around}{E:Value->Shared->Prop}
theorem Inv.big(I:Inv X pins σ H s):sysModules<s.heap.objs.size:=by have h:mainGlobals<s.heap.objs.size:=(I.mod.glob.keeps I.bk).lt;exact Nat.lt_trans (by decide) h
theorem JA{Q:Value->Shared->Prop}(t:A.units+1<cLine)(I:Inv X pins σ H s)(g:Dc H a y (some v))(j:RelV y u)(h:∀c s',Inv X pins σ H s'->RelV v c->Q c s'):wpAny (model X.prog X.w) A (getItem (.ref a) u) Q E s:=by
 rcases g with⟨aE,k,e,f,l⟩|⟨aE,k,b,e,f,m,l⟩;·subst f;obtain⟨z,hd,vs,rel,d⟩:=Il I.bK e;obtain⟨c,hw,i⟩:=jU.some_of (v:=v) (o:=valueAt vs k) (by rw[l];exact rel.val k);exact wpAny_getItem_of (Fv j) d.mapOf hw (h c _ (I.tok _) i)
 ·subst f;cases(show u=Value.ref b from j);obtain⟨z,hd,xs,rel,d⟩:=GU I.bK e;obtain⟨c,hw,i⟩:=jU.some_of (v:=v) (o:=(atKey xs k).map (·.2)) (by rw[l];exact rel.val k);obtain⟨p,n,q⟩:=Option.map_eq_some_iff.mp hw;refine wpAny_getItem_heap (tupleKind_room_in1 t) (A2 I.bK m) d n ?_;rw[q];exact h c _ (I.tok _) i
theorem acw{Q:Value->Shared->Prop}(j:A.units+1<cLine)(I:Inv X pins σ H s)(g:Dc H a y o)(f:RelV y u)(h:∀s',Inv X pins σ H s'->Q (.bool o.isSome) s'):wpAny (model X.prog X.w) A (compareOp .In u (.ref a)) Q E s:=by
 rcases g with⟨aE,k,e,d,l⟩|⟨aE,k,b,e,d,i,l⟩;·subst d;obtain⟨z,hd,vs,rel,c⟩:=Il I.bK e;refine wpAny_in_of (Fv f) hd c.mapOf ?_;rw[<-(rel.val k).m_,<-l];exact h _ (I.tok _)
 ·subst d;cases(show u=Value.ref b from f);obtain⟨z,hd,xs,rel,c⟩:=GU I.bK e;refine wpAny_in_heap (tupleKind_room_in1 j) (A2 I.bK i) hd c ?_;have q:=(rel.val k).m_;rw[Option.isSome_map]at q;rw[<-q,<-l];exact h _ (I.tok _)
theorem HI{h':Heap}{t':Nat}{ob:HO}(I:Inv X pins σ H s)(f:X4 (H a))(d:Heap.SameBut a s.heap h')(c:∃q,h'.get? a=some q)(new:bZ X.prog X.w (upd H a ob) h' a ob):Inv X pins σ (upd H a ob) {s with heap:=h',toks:=t'}:=I.write (x:=a) (e:=a) f (.inl rfl) (λb q hb z=>(d.2 b hb).trans z) c new
theorem Um{P:Program}{w:World}{H':Hp}{h':Heap}{aE:List (Key×V)}{vs:List (Key×Value)}(z:aE.length<=sizeLine)(hd:(a==sysModules)=false)(rel:KV aE vs)(b:h'.DictOf (c9 P w) a vs):bZ P w H' h' a (.dK aE):=⟨z,hd,vs,rel,b⟩
theorem Jf{H':Hp}{Q:Unit->Shared->Prop}(C:A.units+1<cLine)(I:Inv X pins σ H s)(g:NR H a y v H')(x:RelV y u)(w:RelV v r)(h:∀s',Inv X pins σ H' s'->Q () s'):wpAny (model X.prog X.w) A (setItem (.ref a) u r) Q E s:=by
 rcases g with⟨aE,k,e,j,l,i⟩|⟨aE,k,b,e,j,p,l,i⟩
 ·subst j i;obtain⟨z,hd,vs,rel,f⟩:=Yq I.bK e;have n:vs.length<=sizeLine:=by rw[<-rel.length];exact z
  have hl:(putK aE k v).length<=sizeLine:=by have :=ji aE k v;lia
  refine wpAny_setItem_pairs (hsz:=n) (Fv x) f λh' d m=>h _ ?_;have B:∃q,h'.get? a=some q:=let⟨q,_,_,hq,_⟩:=d;⟨q,hq⟩;exact HI I (by rw[e];exact True.intro) m B (Um hl hd (rel.put k w) d)
 ·subst j i;cases(show u=Value.ref b from x);obtain⟨z,hd,xs,rel,f⟩:=YK I.bK e;have n:xs.length<=sizeLine:=by rw[<-Paired.length rel];exact z
  have hl:(putK aE k v).length<=sizeLine:=by have :=ji aE k v;lia
  refine wpAny_setItem_heap (hsz:=n) (tupleKind_room_in1 C) (A2 I.bK p) f λh' d m=>h _ ?_;obtain⟨q,es,ep,hq,h2,h3,h4,_,h5⟩:=d;refine HI I (by rw[e];exact True.intro) m ⟨q,hq⟩ ⟨hl,hd,_,(rel.put k p w).keeps λc ys t=>?_,q,es,ep,hq,h2,h3,h4,h5⟩;rw[aI (TL t e (λz=>nomatch z))];exact t
end
section
variable{X:Cx}{pins:List (Addr×Obj)}{σ:St}{H:Hp}{s:Shared}{a:Addr}{aE:List (Key×V)}{k:Key}{u:Value}{A:Around}{E:Value->Shared->Prop}
end
def VW(i:Expr):Prop:=∀b a,subscripted i false b a=operate [b,a] (getItem b a)
theorem Ga{prog:Program}{w:World}{A:Around}{E:Value->Shared->Prop}{s:Shared}{env:Env}{value slice:Expr}{j:Pos}{T id:String}{Q:Value->Shared->Prop}(hl:typeLookup (.type T) "__getitem__"=pure (some (.builtin id)))(f:VW slice)(h:wpAny (model prog w) A (eval value env) (λo d=>wpAny (model prog w) A (eval slice env) (λi a=>a.TypeIs o T/\wpAny (model prog w) A (getItem o i) Q E a) E d) E s):wpAny (model prog w) A (eval (.Subscript value slice j) env) Q E s:=by
 refine Subscript_ (f_ h (λo d h₁=>f_ h₁ (λi a b=>?_) λ_ _ x=>x) λ_ _ x=>x);obtain⟨c,b⟩:=b;unfold subscriptTail;refine ao ?_;rw[getitemInPython_of_ne c.not_modules];refine ao (wpAny_specialOf c hl ?_);have fin:wpAny (model prog w) A (subscripted slice false o i) (λr e=>wpAny (model prog w) A (letTemporaryGo value o r>>=λ_=>pure r) Q E e) E a:=by rw[f o i];exact wpAny_operating (f_ b (λr e g=>ao (wpAny_letTemporaryGo (aU g))) λ_ _ x=>x)
 first|exact aU (ao fin)|exact ao (aU (ao fin))|exact ao fin
theorem A9{X:Cx}{pins:List (Addr×Obj)}{σ:St}{H:Hp}{s:Shared}{a:Addr}{y:V}{o:Option V}(I:Inv X pins σ H s)(g:Dc H a y o):s.TypeIs (.ref a) "dict":=by
 rcases g with⟨aE,k,e,_,_⟩|⟨aE,k,b,e,_,_,_⟩;·obtain⟨_,_,vs,_,c⟩:=Il I.bK e;exact c.typeIs
 ·obtain⟨_,_,xs,_,c⟩:=GU I.bK e;exact c.typeIs
noncomputable def Ye(td ty:TE):TE:=λσ H Q=>td σ H λx c=>ty σ c λy b=>∃a v,x= .ref a/\Dc b a y (some v)/\Q v b
noncomputable def acj(ty td:TE):TE:=λσ H Q=>ty σ H λy c=>td σ c λx b=>∃a o,x= .ref a/\Dc b a y o/\Q (.bl o.isSome) b
noncomputable def Yo(td ty f:TE):TS:=λD σ H=>f σ H λv c=>td σ c λx d=>ty σ d λy e=>∃a b,x= .ref a/\NR e a y v b/\D.nx σ b
section
variable{X:Cx}{o i e value:Expr}{pos pos' LH:Pos}{td ty tv:TE}
theorem Q1(m:X.A.units+1<cLine)(k:PE X o td)(hi:PE X i ty)(l:VW i):PE X (.Subscript o i pos) (Ye td ty):=by intro pins s σ H Q I h;refine Ga PySem.F.slot_dict_getitem.lookup l (bH (k pins s σ H _ I h) λu s1⟨x,c,f,r,n⟩=>bH (hi pins s1 σ c _ f n) λz s2 w=>?_);obtain⟨y,d,b,t,a,v,ex,g,p⟩:=w;subst ex;obtain rfl:u=Value.ref a:=r;exact⟨A9 b g,JA m b g t λB A j q=>⟨v,d,j,q,p⟩⟩
theorem U7(l:X.A.units+1<cLine)(hi:PE X i ty)(k:PE X o td):PC X .In i o (acj ty td):=by intro pins s σ H Q I h;refine bH (hi pins s σ H _ I h) λv s1⟨y,b,d,r,n⟩=>bH (k pins s1 σ b _ d n) λu s2 t=>?_;obtain⟨x,c,f,q,a,m,ex,g,p⟩:=t;subst ex;obtain rfl:u=Value.ref a:=q;exact acw l f g r λw j=>⟨.bl m.isSome,c,j,rfl,p⟩
theorem Qr(p:X.A.units+1<cLine)(m:PE X o td)(hi:PE X i ty)(q:PE X value tv)(n:swapsWith value (some (.Subscript o i pos')) pos.line X.env=pure false):PS X (.Assign [.Subscript o i pos'] value pos) (Yo td ty tv):=by intro pins s σ H D I h;refine wpAny_Assign_Subscript (bH (q pins s σ H _ I h) λr s1⟨v,b,f,A,t⟩=>bH (m pins s1 σ b _ f t) λu s2⟨x,c,j,B,w⟩=>bH (hi pins s2 σ c _ j w) λG J E=>?_) n;obtain⟨y,F,k,C,a,d,ex,g,z⟩:=E;subst ex;obtain rfl:u=Value.ref a:=B;exact Jf p k g C A λK l=>⟨σ,d,l,z⟩
end
theorem NZ{P:Program}{w:World}{H:Hp}(h:Heap)(hb:sysModules<h.objs.size):bZ P w H (h.push {cls:= .type "dict",data:= .dict #[]}) h.objs.size (.dK []):=⟨dA _,beq_eq_false_iff_ne.mpr (Ne.symm (cW hb)),[], .nil,Heap.DictOf.new h⟩
noncomputable def VF:TE:=λ_ H Q=>∀p,H p=none->Q (.ref p) (upd H p (.dK []))
section
variable{X:Cx}{pos:Pos}
theorem MJ:PE X (.Dict [] [] pos) VF:=λpins s σ H Q I h=>wpAny_Dict_empty ⟨.ref s.heap.objs.size,_,I.laid (a:=s.heap.objs.size) (o:= .dK []) (t':=s.toks) (λ_ _ q=>bC _ q) (bf _) (NZ s.heap I.big),rfl,h _ (I.bK.fresh (bf _))⟩
end
noncomputable def L0:List (TE×TE)->St->Hp->(List (V×V)->Hp->Prop)->Prop|[],_,H,Q=>Q [] H|(tk,d)::r,σ,H,Q=>tk σ H λx a=>d σ a λy b=>L0 r σ b λps c=>Q ((x,y)::ps) c
noncomputable abbrev VV:List (V×V)->List (Value×Value)->Prop:=Paired λp q=>RelV p.1 q.1/\RelV p.2 q.2
noncomputable def E_(X:Cx)(a:Pos)(keys:List (Option Expr))(values:List Expr)(b:List (TE×TE)):Prop:=∀(pins:List (Addr×Obj))(s:Shared)(σ:St)(H:Hp)(Q:List (V×V)->Hp->Prop),Inv X pins σ H s->L0 b σ H Q->wpAny (model X.prog X.w) X.A (evalPairs (pairTrees keys values X.env a)) (λvs s'=>∃ps H',Inv X pins σ H' s'/\VV ps vs/\Q ps H') X.xe s
structure M1(X:Cx)(o:Expr)(m:Str)(apos:Pos)(e:Expr)(dy:Pos):Prop where
 base:attributeBase o m X.env (eval o X.env)=eval o X.env
 Xl:((backTo dy (starEach [e] X.env)).all (λx=>!x.1)&&(backToKw dy (keywordEach [] X.env)).all (λx=>x.1.isSome)&&decide (([e]:List Expr).length+([]:List Keyword).length+(if([]:List Keyword).isEmpty then 0 else 1)<30))=true
 line:(apos.endLine==dy.line)=true
 trees:backTo dy (starEach [e] X.env)=[(false,eval e X.env)]
structure M2(X:Cx)(o:Expr)(m:Str)(apos:Pos)(e f:Expr)(dy:Pos):Prop where
 base:attributeBase o m X.env (eval o X.env)=eval o X.env
 Xl:((backTo dy (starEach [e,f] X.env)).all (λx=>!x.1)&&(backToKw dy (keywordEach [] X.env)).all (λx=>x.1.isSome)&&decide (([e,f]:List Expr).length+([]:List Keyword).length+(if([]:List Keyword).isEmpty then 0 else 1)<30))=true
 line:(apos.endLine==dy.line)=true
 trees:backTo dy (starEach [e,f] X.env)=[(false,eval e X.env),(false,eval f X.env)]
section
variable{X:Cx}{pins:List (Addr×Obj)}{σ:St}{H:Hp}{s:Shared}{a:Addr}{y d:V}{u r:Value}{o:Option V}{A:Around}{E:Value->Shared->Prop}
end
section
variable{X:Cx}{o e f:Expr}{apos dy:Pos}{td ty tx:TE}
end
section
variable{X:Cx}{pins:List (Addr×Obj)}{σ:St}{H:Hp}{s:Shared}{a:Addr}{aE:List (Key×V)}{A:Around}{E:Value->Shared->Prop}
end
section
variable{X:Cx}{pins:List (Addr×Obj)}{σ:St}{H:Hp}{s:Shared}{a:Addr}{y:V}{u:Value}{A:Around}{E:Value->Shared->Prop}
end
end L2
end
section
namespace Att
open PySem PySem.W PySem.Calls PyProof.Rows
theorem pA{P:Params}{h:Heap}:∀(ns:List Int)(vs:List Value),WellAll P h vs (ns.map WData.int)->IntsAre vs ns:=by intro ns;induction ns with|nil=>intro vs w;rw[List.map_nil]at w;cases w;exact .nil|cons n ns c=>intro vs w;rw[dQ]at w;cases w with|cons a b=>cases a;exact .cons _ _ (c _ b)
theorem Jv{l:OpenLaw}{n:Nat}(hn:l.most=some n){P:Params}{h:Heap}{args:List WData}{vals:List Value}(b:l.row.toRowW.claim.pre args=true)(g:WellAll P h vals args):∃a vs ns,vals=[Value.ref a]/\args=[WData.list (ns.map WData.int)]/\h.get? a=some {cls:= .type "list",data:= .seq vs.toArray}/\IntsAre vs ns/\ns.length<=n:=by
 have f:WShape.hasAll [] args [.list .int]=true:=(pre_splitW b).1;have hc:l.pre.holds [] {args:=args}=true:=(pre_splitW b).2;obtain⟨d,r,rfl,h1,h2⟩:=hasAllW_cons f;obtain rfl:=hasAllW_nil h2;obtain⟨xs,rfl,h3⟩:=hasW_list h1;obtain⟨ns,rfl⟩:=items_int h3;have hlen:ns.length<=n:=by
  unfold OpenLaw.pre at hc;have h4:(WTm.not (.lt (.lit (.int (n:Int))) (.len (.arg 0)))).holds [] {args:=[.list (ns.map .int)]}=true:=by have h4:=(holds_andW hc).1;rw[hn]at h4;exact h4
  have h5:=condW_of h4 (w_not (w_lt w_lit (w_len_list (w_arg rfl))));rw[cy]at h5;refine Nat.le_of_not_lt λq=>?_;have i:(n:Int)<((ns.length:Nat):Int):=by lia
  first|(rw[decide_eq_true i]at h5;exact absurd h5 (by decide))|(simp at h5;lia)
 cases g with|cons w1 w2=>cases w2;cases w1 with|list e c=>exact⟨_,_,ns,rfl,rfl,e,pA ns _ c,hlen⟩
theorem JW(l:OpenLaw)(args:List WData):l.row.toRowW.claim.post args (.bool true) args=true:=postW_of (r:=l.row.toRowW) (X:=(true==true)) (show WShape.has [] (.bool true) .bool=true by first|rfl|decide|simp[WShape.has,WShape.arms,WShape.armsAll]) (show(WTm.eq .res (.lit (.bool true))).value [] {args:=args,res:=some (.bool true),after:=args}=some (.bool (true==true))from w_eq_bool (w_res rfl) w_lit) rfl
theorem Dw{l:OpenLaw}{n:Nat}{q:Program}{loose:List Str}{XP:(Str->Option Value)->Heap->Prop}{YP:World->Heap->Prop}{d:DefRec}(hn:l.most=some n)(h:d.params.defaults=[])(call:∀(w:World)(bV b:Shared)(mg mb:Str->Option Value)(fa:Addr)(o:Obj)(pm cd doc:Value)(a:Addr)(vs:List Value)(ns:List Int),Ground q loose [] XP w bV mg mb b.heap->YP w b.heap->b.heap.get? fa=some o->o.data= .func (docDef d.name d.params d.body d.scope pm cd doc)->b.heap.CodeRec cd d.name->mg d.name=some (.ref fa)->b.heap.get? a=some {cls:= .type "list",data:= .seq vs.toArray}->IntsAre vs ns->ns.length<=n->b.gens=#[]->codeAny (model l.prog w) callerA (.call (.ref fa) ⟨[.ref a],[]⟩) (λr s'=>r= .ok (.ret (.bool true))/\OldK b.heap s'.heap/\s'.os=b.os/\AllBare s'.gens) b):WalkO q loose XP YP l.row.toRowW d [] (λf vs=>PySem.call f vs):=by intro w bV b mg mb G Y fa o pm cd doc e kV j hd g c hmg i args vals as m s u p t;obtain rfl:e= .none:=Dflts.none c h;obtain rfl:kV= .none:=Dflts.noKw c;obtain⟨a,vs,ns,rfl,rfl,k,hints,hlen⟩:=Jv hn m p;refine enter_call (codeAny_mono (call w bV b mg mb fa o pm cd doc a vs ns G Y j (fd_plain hd) g hmg k hints hlen i) λr s' hq=>?_);obtain⟨rfl,h2,h3,h4⟩:=hq;exact⟨.inl ⟨.bool true, .bool true,[],rfl,λ_=>rfl, .bool true,JW l _,λ_=>⟨List.Pairwise.nil,λ_ hm=>(nomatch hm)⟩⟩,h2,h3,h4⟩
section
variable{prog:Program}{w:World}{A:Around}{E:Value->Shared->Prop}{s:Shared}{K:Frag}
end
end Att
end
section
namespace L2
open PySem PySem.Spec PyProof.Rows
theorem xq:∀{vs:List Value}{ns:List Int},IntsAre vs ns->Vals (ns.map V.int) vs|_,_, .nil=> .nil|_,_, .cons n t h=> .cons ⟨t,rfl⟩ (xq h)
noncomputable abbrev KOf{K:PySem.W.Frag}{h:Heap}(_:K.In h):PySem.W.Frag:=K
noncomputable def inClass(s:Stmt)(j:Nat):Stmt:=match s with| .ClassDef _ _ _ body _ _ _ _ _ _ _=>body.getD j (.Pass ⟨0,0,0,0⟩)|_=> .Pass ⟨0,0,0,0⟩
noncomputable def cS(s:Stmt):Arguments:=match s with| .FunctionDef _ a _ _ _ _ _ _ _ _=>a|_=>{posonlyargs:=[],args:=[],vararg:=none,kwonlyargs:=[],kw_defaults:=[],kwarg:=none,defaults:=[]}
noncomputable def bu(s:Stmt):List Stmt:=match s with| .FunctionDef _ _ b _ _ _ _ _ _ _=>b|_=>[]
noncomputable def ai(s:Stmt):Scope:=match s with| .FunctionDef _ _ _ _ _ _ sc _ _ _=>sc|_=>{kind:= .function,names:=[],isGenerator:=false,isCoroutine:=false}
noncomputable abbrev b_:kL:=λ_ _ _ _ _ _ _=>False
noncomputable abbrev E0:XK:=λ_ _ _=>False
theorem bh{X:Cx}:Passes b_ X E0:=λ_ _ _ _ _ _ _ h=>h.elim
structure Om(K:PySem.W.Frag)(x qual:Str)(st:Stmt)(f:Addr)(fd:FuncData):Prop where
 ex:∃(oc:Value)(od:Option Addr)(kV doc pm:Value)(an:Option Addr)(bS ct:Value)(A4:Array (Option Value)),fd=PySem.W.fnOf x qual (cS st) (bu st) (ai st) .none kV doc pm an bS ct/\K.lookup f=some ⟨oc,od, .func fd,A4⟩/\PySem.W.codeIn K bS qual=true
 kp:PySem.W.keepIn K (.ref f)=true
section
variable{P:Program}{w:World}{K:PySem.W.Frag}{mg:Str->Option Value}{base:Heap}
theorem Om.ok{x qual:Str}{st:Stmt}{f:Addr}{fd:FuncData}{N ps:List Str}{k:Nat}{sp:Sp}(F:Om K x qual st f fd)(S:aC N ps (ai st))(len:∀vs H Q E,sp vs H Q E->vs.length=ps.length)(a:∀(bS:Value)(A:Around)(outer:List Env)(s:Shared)(H:Hp)(vs:List V)(Q:VK)(E:XK),bY k (A.deeper (envOfC qual (ai st) s.heap.objs.size f bS))->sp vs H Q E->∃t,gR (dw b_ P w K mg base N qual (ai st) f bS A outer s H E).Gw (bu st) t/\t {nx:=λ_ H'=>Q .aO H',rt:=Q} (start N vs) H):nA P w K mg base b_ (k+1) f fd ps sp:=by obtain⟨oc,od,kV,doc,pm,an,bS,ct,A4,rfl,e,b⟩:=F.ex;refine B0 e b S len λA outer s H vs Q E c d=>?_;obtain⟨t,h,q⟩:=a bS A outer s H vs Q E c d;exact⟨t,h.Gw,q⟩
theorem Om.binds{x qual:Str}{st:Stmt}{f:Addr}{fd:FuncData}{ps:List Str}(F:Om K x qual st f fd)(h:∀(kV doc pm:Value)(an:Option Addr)(bS ct:Value)(us:List Value),us.length=ps.length->bindArgs (PySem.W.fnOf x qual (cS st) (bu st) (ai st) .none kV doc pm an bS ct) ⟨us,[]⟩=pure (ps.zip us)):Binds K fd ps []:=by obtain⟨oc,od,kV,doc,pm,an,bS,ct,A4,rfl,b,a⟩:=F.ex;exact .all (h kV doc pm an bS ct)
theorem eZ{x qual:Str}{st:Stmt}{f:Addr}{oc:Value}{od an:Option Addr}{A4:Array (Option Value)}{kV doc pm bS ct:Value}(l:K.lookup f=some ⟨oc,od, .func (PySem.W.fnOf x qual (cS st) (bu st) (ai st) .none kV doc pm an bS ct),A4⟩)(c:PySem.W.codeIn K bS qual=true)(k:PySem.W.keepIn K (.ref f)=true):Om K x qual st f (PySem.W.fnOf x qual (cS st) (bu st) (ai st) .none kV doc pm an bS ct):=⟨⟨oc,od,kV,doc,pm,an,bS,ct,A4,rfl,l,c⟩,k⟩
end
theorem Bu{A:Around}{k:Nat}(a:bY k A):A.units+1<cLine:=Nat.lt_of_le_of_lt (Nat.add_le_add_left (by decide:1<=64) _) a.units
section
variable{X:Cx}
theorem pv(i:Nat){x:Str}{d:Pos}(a:X.N[i]?=some x:=by rfl)(c:Zy X.env.scope x:=by first|exact Or.inl rfl|exact Or.inr (Or.inl rfl)|exact Or.inr (Or.inr rfl))(hd:(x==("__debug__":Str))=false:=by decide)(b:(x==("__classdict__":Str))=false:=by decide):PE X (.Name x d) (Uc i):=Ni a c hd b
end
theorem ff{A B:Prop}(h:B):if false=true then A else B:=by rw[if_neg eC];exact h
theorem dS{A B:Prop}(h:A):if true=true then A else B:=by rw[if_pos rfl];exact h
theorem a_{c A B:Prop}[Decidable c](h1:c->A)(h2:¬c->B):if c then A else B:=by
 by_cases h:c;·rw[if_pos h];exact h1 h
 ·rw[if_neg h];exact h2 h
theorem YU{c A B:Prop}[Decidable c](hc:c)(h:B):if(!decide c)=true then A else B:=by rw[decide_eq_true hc];exact ff h
def ay(H H':Hp):Prop:=∀b o,H b=some o->H' b=some o
theorem ay.refl(H:Hp):ay H H:=λ_ _ h=>h
theorem ay.trans{H d e:Hp}(a:ay H d)(b:ay d e):ay H e:=λc o h=>b c o (a c o h)
theorem ay.free{H H':Hp}(e:ay H H'){l:Addr}(h:H' l=Option.none):H l=Option.none:=by cases q:H l with|none=>rfl|some o=>rw[e l o q]at h;cases h
section
variable{X:Cx}
end
section
variable{κ:Type}[DecidableEq κ]
theorem Q9{aE:List (κ×V)}{k:κ}{v:V}(h:d9 aE k=some v):k∈aE.map (·.1):=by
 have q:(aE.any λb=>decide (b.1=k))=true:=by rw[jh,h];all_goals rfl
 obtain⟨p,a,e⟩:=List.any_eq_true.mp q;exact List.mem_map.mpr ⟨p,a,of_decide_eq_true e⟩
end
end L2
end
section
namespace L3
open PySem PySem.Spec PyProof.Rows L2
noncomputable def dG(env:Env):List (Str×NameKind)->List (Str×Addr)->List (Str×Addr)|[],cs=>cs|(n,k)::r,cs=>dG env r (if(k== .free)=true then(n,(env.cells.lookup n).getD 0)::cs else cs)
theorem u_{env:Env}{scope:Scope}(h:∀x∈scope.names,x.2= .free->∃c,env.cells.lookup x.1=some c):closureFor scope env=pure (dG env scope.names []):=by
 unfold closureFor;have go:∀(l:List (Str×NameKind))(cs:List (Str×Addr)),(∀x∈l,x.2= .free->∃c,env.cells.lookup x.1=some c)->(forIn l cs λ(x:Str×NameKind)(r:List (Str×Addr))=>if(x.2== .free)=true then(do let a<-cellOf env x.1;pure (ForInStep.yield ((x.1,a)::r)))else pure (ForInStep.yield r):Sem (List (Str×Addr)))=pure (dG env l cs):=by
  intro l;induction l with
   |nil=>intro cs _;rfl
   |cons x l f=>
    intro cs hl;obtain⟨n,k⟩:=x;have d:∀y∈l,y.2= .free->∃c,env.cells.lookup y.1=some c:=λy g=>hl y (cF _ g);rw[List.forIn_cons,dG];by_cases b:(k==NameKind.free)=true
    ·obtain⟨c,hc⟩:=hl (n,k) cj (by simpa using b);have hc:env.cells.lookup n=some c:=hc;have e:cellOf env n=pure c:=by unfold cellOf;rw[hc]
     simp only[b,if_true,e,pure_bind,hc,Option.getD_some];exact f _ d
    ·simp only[b,if_false,pure_bind];exact f _ d
 have q:=go scope.names [] h;simp only[bind_pure];exact q
theorem mX{env:Env}{x:Str}:∀(l:List (Str×NameKind))(cs:List (Str×Addr)),(∃c,cs.lookup x=some c)->∃c,(dG env l cs).lookup x=some c
 |[],_,h=>h
 |(n,k)::r,cs,h=>by
  rw[dG];refine mX r _ ?_;by_cases a:(k==NameKind.free)=true;·rw[if_pos a,jS];cases x==n with|true=>exact⟨_,rfl⟩|false=>exact h
  ·rw[if_neg a];exact h
theorem jm{env:Env}{x:Str}:∀(l:List (Str×NameKind))(cs:List (Str×Addr)),(x,NameKind.free)∈l->∃c,(dG env l cs).lookup x=some c
 |[],_,h=>by cases h
 |(n,k)::r,cs,h=>by
  rw[dG];rcases List.mem_cons.mp h with e|h;·cases e;refine mX r _ ?_;rw[if_pos (by decide),jS,beq_self_eq_true];exact⟨_,rfl⟩
  ·exact jm r _ h
theorem j5{env:Env}:∀(l:List (Str×NameKind))(cs:List (Str×Addr)),(∀x∈l,x.2= .free->∃c,env.cells.lookup x.1=some c)->(∀x c,cs.lookup x=some c->env.cells.lookup x=some c)->∀x c,(dG env l cs).lookup x=some c->env.cells.lookup x=some c
 |[],_,_,h=>h
 |(n,k)::r,cs,hl,h=>by
  rw[dG];refine j5 r _ (λy g=>hl y (cF _ g)) λx c e=>?_;by_cases b:(k==NameKind.free)=true
  ·rw[if_pos b,jS]at e;cases d:x==n with
    |true=>
     rw[d]at e;obtain rfl:x=n:=by simpa using d
     obtain⟨f,a⟩:=hl (x,k) cj (by simpa using b);have a:env.cells.lookup x=some f:=a;rw[a]at e⊢;exact e
    |false=>rw[d]at e;exact h x c e
  ·rw[if_neg b]at e;exact h x c e
theorem l7{env:Env}:∀{l:List (Str×NameKind)}{x:Str},l.lookup x=some .free->(l.map λ(p:Str×NameKind)=>if(p.2==NameKind.free&&env.scope.kind== .function&&env.kindOf p.1==some .cell)then(p.1,NameKind.cell)else(p.1,p.2)).lookup x=some .cell\/(l.map λ(p:Str×NameKind)=>if(p.2==NameKind.free&&env.scope.kind== .function&&env.kindOf p.1==some .cell)then(p.1,NameKind.cell)else(p.1,p.2)).lookup x=some .free
 |[],_,h=>by simp at h
 |(n,k)::r,x,h=>by
  have b:=@l7 env r x;rw[jS]at h;rw[dQ];by_cases hc:(k==NameKind.free&&env.scope.kind== .function&&env.kindOf n==some .cell)=true;·simp only[hc,if_true];rw[jS];cases a:x==n with|true=>exact .inl rfl|false=>rw[a]at h;exact b h
  ·simp only[hc,Bool.false_eq_true,if_false];rw[jS];cases a:x==n with|true=>rw[a]at h;exact .inr h|false=>rw[a]at h;exact b h
theorem tW{env:Env}:∀{l:List (Str×NameKind)}{x:Str},(∀y∈l,y.2≠ .cell)->((l.map λ(p:Str×NameKind)=>if(p.2==NameKind.free&&env.scope.kind== .function&&env.kindOf p.1==some .cell)then(p.1,NameKind.cell)else(p.1,p.2)).lookup x=some .cell\/(l.map λ(p:Str×NameKind)=>if(p.2==NameKind.free&&env.scope.kind== .function&&env.kindOf p.1==some .cell)then(p.1,NameKind.cell)else(p.1,p.2)).lookup x=some .free)->(x,NameKind.free)∈l
 |[],_,_,h=>by simp at h
 |(n,k)::r,x,hl,h=>by
  have b:=@tW env r x λy c=>hl y (cF _ c);rw[dQ]at h;by_cases hc:(k==NameKind.free&&env.scope.kind== .function&&env.kindOf n==some .cell)=true
  ·simp only[hc,if_true]at h;rw[jS]at h;cases a:x==n with
    |true=>
     obtain rfl:x=n:=by simpa using a
     have :k= .free:=by simp only[bD]at hc;simpa using hc.1.1
     rw[this];exact cj
    |false=>rw[a]at h;exact cF _ (b h)
  ·simp only[hc,Bool.false_eq_true,if_false]at h;rw[jS]at h;cases a:x==n with
    |true=>
     rw[a]at h;obtain rfl:x=n:=by simpa using a
     rcases h with h|h;·exact absurd (Option.some.inj h) (hl (x,k) cj)
     ·have :k= .free:=Option.some.inj h;rw[this];exact cj
    |false=>rw[a]at h;exact cF _ (b h)
noncomputable abbrev Eo(X:Cx)(scope:Scope)(C:Addr):Env:=compEnvC scope (dG X.env scope.names []) C X.env
noncomputable abbrev dr(X:Cx)(N':List Str)(scope:Scope)(a:Shared)(b:Hp)(fp:List Addr):Cx:={X with N:=N',bV:=a,H₀:=b,env:=Eo X scope a.heap.objs.size,outer:=X.stack,stack:=X.stack,ex:=fp,fn:=λ_=>false,pn:=X.pn,xe:=λ_ _=>False}
noncomputable def gq(own:Nat)(fr:List Nat)(σ:L2.St):L2.St:=List.replicate own none++fr.map λi=>(σ[i]?).join
structure l0(X:Cx)(N':List Str)(own:Nat)(fr:List Nat)(scope:Scope):Prop where
 kind:scope.kind= .function
 ni:∀y∈scope.names,y.2≠ .cell
 loc:∀x∈scope.names,x.2= .local->scope.names.lookup x.1=some .local
 free:∀x∈scope.names,x.2= .free->X.env.kindOf x.1=some .cell\/X.env.kindOf x.1=some .free
 len:N'.length=own+fr.length
 fr:∀j i,fr[j]?=some i->∃x,N'[own+j]?=some x/\X.N[i]?=some x/\scope.names.lookup x=some .free
theorem uC{fs ex:List Addr}{H H':Hp}{h h1 h2:Heap}{C:Addr}(u:Un fs ex H H' h h1)(d:h.objs.size<=C)(c:Heap.SameBut C h1 h2):Un fs ex H H' h h2:=by
 have ne:∀b o,h.get? b=some o->b≠C:=λb o e=>cW (gb (bA e) d);refine⟨λb o e n hb a=>(c.2 b (ne b o e)).trans (u.keep b o e n hb a),λb o e n hb a=>?_,u.free,λb o e a=>?_,u.v9,u.uN,u.vq⟩;·obtain⟨sl,q⟩:=u.slot b o e n hb a;exact⟨sl,(c.2 b (ne b o e)).trans q⟩
 ·obtain⟨o',q⟩:=u.there b o e a;exact⟨o',(c.2 b (ne b o e)).trans q⟩
theorem Bv{P:Program}{w:World}{H:Hp}{h h2:Heap}{C:Addr}(k:iK P w H h)(a:H C=none)(d:Heap.SameBut C h h2):iK P w H h2:=λb ob e=>by
 refine(k b ob e).vE (λc f hc q=>(d.2 c ?_).trans q) (λ_ q=>q) λ_ _ q=>q;rintro rfl;rcases hc with rfl|hc;·rw[a]at e;cases e
 ·rw[a]at hc;cases hc
noncomputable def zD(Y:Cx)(a:List Expr)(b:TT):Prop:=∀(pins:List (Addr×Obj))(s:Shared)(σ:L2.St)(H:Hp)(Q:Bool->Hp->Prop),Inv Y pins σ H s->b σ H Q->wpAny (model Y.prog Y.w) Y.A (forIn a true λc r=>if r=true then do let ok<-isTrue c Y.env (eval c Y.env);pure (ForInStep.yield ok)else pure (ForInStep.yield r)) (TP Y pins σ Q) Y.xe s
noncomputable def EO:TT:=λ_ H Q=>Q true H
theorem lM{Y:Cx}:zD Y [] EO:=λ_ _ _ H _ I h=>wpAny_tests_nil ⟨H,I,h⟩
theorem zc{Y:Cx}{c:Expr}{t:TT}(h:PT Y c t):zD Y [c] t:=λpins s σ H Q I hq=>wpAny_tests_one (h pins s σ H Q I hq)
section
variable{prog:Program}{w:World}{A:Around}{R:Result->Shared->Prop}{s:Shared}
theorem o7{b target iter:Expr}{d:List Expr}{scope:Scope}{j:Pos}{it a:Value}{env:Env}(J:Nat->Shared->Prop)(turn:∀n s,J n s->wpAny (model prog w) A (pyNext it) (λr e=>match r with|none=>R (.ok .next) e|some v=>wpAny (model prog w) A (letOwnedTupleGo target it v) (λ_ bV=>wpAny (model prog w) A (assign target env v) (λ_ k=>wpAny (model prog w) A (forIn d true λc r=>if r=true then do let ok<-isTrue c env (eval c env);pure (ForInStep.yield ok)else pure (ForInStep.yield r)) (λok g=>if ok=true then wpAny (model prog w) A (eval b env) (λx l=>wpAny (model prog w) A (call (.builtin "list.append") [a,x]) (λ_ o=>∃m,m<n/\J m o) (λ_ _=>False) l) (λ_ _=>False) g else∃m,m<n/\J m g) (λ_ _=>False) k) (λ_ _=>False) bV) (λ_ _=>False) e) (λ_ _=>False) s)(n:Nat)(h:J n s):codeAny (model prog w) A (.compLoop (.ListComp b [⟨target,iter,d,0⟩] scope j) 0 it a env) R s:=by refine codeAny_loop rfl J (λn s u=>?_) n h;show wpAny _ A ((compTurn (.ListComp b [⟨target,iter,d,0⟩] scope j) 0 it a env).onRaise (λx=>do noteFrame x env;theTreesLotGoes x)) _ _ s;refine wpAny_noted ?_;rw[compTurn_list];have no:∀{p:Type}{m:Sem p}{Q:p->Shared->Prop}{t:Value->Shared->Prop}{s':Shared},wpAny (model prog w) A m Q (λ_ _=>False) s'->wpAny (model prog w) A m Q t s':=λhm=>f_ hm (λ_ _ q=>q) λ_ _ f=>f.elim;refine ao (wpAny_standAt (ao (no (f_ (turn n s u) (λr e h₁=>?_) λ_ _ h'=>h'))));cases r with|none=>exact aU h₁|some v=>refine ao (no (f_ h₁ (λ_ bV h₀=>ao (no (f_ h₀ (λ_ k y=>ao (no (f_ y (λok g i=>?_) λ_ _ h'=>h'))) λ_ _ h'=>h'))) λ_ _ h'=>h'));cases ok with|false=>exact aU ⟨rfl,i⟩|true=>exact ao (ao (no (f_ i (λx l z=>ao (no (f_ z (λ_ o B=>aU (aU ⟨rfl,B⟩)) λ_ _ h'=>h'))) λ_ _ h'=>h')))
end
def Own(own:Nat)(g:TG):Prop:=∀v σ H Q,g v σ H Q->g v σ H λa b=>Q a b/\a.length=σ.length/\∀i,own<=i->a[i]?=σ[i]?
theorem fX{own i:Nat}(h:i<own):Own own (kx i):=λv σ H Q q=>⟨q,by simp,λj a=>List.getElem?_set_ne (by lia)⟩
theorem Ko{own i j n:Nat}{K:PySem.W.Frag}(hi:i<own)(e:j<own):Own own (Z7 K n (Np (kx i) (Np (kx j) aa_))):=by intro v σ H Q q;obtain⟨a,xs,e1,e2,e3,x,r,e4,y,d,b,c,q⟩:=q;refine⟨a,xs,e1,e2,e3,x,r,e4,y,d,b,c,q,by simp,λk f=>?_⟩;rw[List.getElem?_set_ne (by lia),List.getElem?_set_ne (by lia)]
noncomputable def RH(own:Nat)(fr:List Nat)(o:TI)(g:TG)(n:TT)(l:TE):TE:=λσ H Q=>o σ H λJ d=>∀p,d p=none->∃W:Nat->Nat->List V->Hp->Prop,(∃m,W 0 m [] (upd d p (.lst [])))/\∀i m a b,W i m a b->(J.stop i b/\Q (.ref p) b)\/(J.go i b/\∀x e,J.vB i b x e->g x (gq own fr σ) e λj k=>n j k λok f=>if ok=true then l j f λv h=>h p=some (.lst a)/\a.length<sizeLine/\∃c,c<m/\W (i+1) c (a++[v]) (upd h p (.lst (a++[v])))else∃c,c<m/\W (i+1) c a f)
theorem HA{X:Cx}{scope:Scope}{N':List Str}{own:Nat}{fr:List Nat}{pins:List (Addr×Obj)}{σ:L2.St}{f:Hp}{d:Shared}{h4:Heap}{fp:List Addr}{t4:Nat}{m:Str->Option Value}(S:l0 X N' own fr scope)(a:Inv X pins σ f d)(g:∀b∈fp,lr X pins f b/\b<d.heap.objs.size)(keep:∀b o,d.heap.get? b=some o->h4.get? b=some o)(D:h4.Ns d.heap.objs.size m):Inv (dr X N' scope d f fp) [] (gq own fr σ) f {d with heap:=h4,toks:=t4}:=by
 have B:∀x∈scope.names,x.2= .free->∃c,X.env.cells.lookup x.1=some c:=λx n e=>a.ok.has x.1 (S.free x n e);have snd:∀x c,(dG X.env scope.names []).lookup x=some c->X.env.cells.lookup x=some c:=j5 _ _ B λx c e=>by simp at e
 have ok:(dr X N' scope d f fp).Ok:=by
  refine⟨a.ok.mod,S.kind,a.ok.glob,a.ok.blt,bf _,λx y c e1 e2=>a.ok.inj x y c (snd x c e1) (snd y c e2),λx n=>jm _ _ (tW S.ni n),λx c z=>(by cases z),a.ok.hd,a.ok.frames, .inl rfl,λb hb=>⟨cW (g b hb).2,λx c e=>(g b hb).1.2.2.2.2.1 x c (snd x c e)⟩,a.bs,cq a.ok.DB a.sz,λb o e hb=>?_,λb hb F=>?_,a.stack,a.xG⟩
  ·rcases(g b hb).1.2.2.2.1 with z|z;·exact a.ok.yw b o e z
   ·exact absurd (gb (bA e) a.ok.DB) (Nat.not_lt.mpr z)
  ·rcases List.mem_cons.mp (a.fP b F)with z|z;·exact(g b hb).1.2.1 z
   ·exact(g b hb).1.2.2.1 z
 refine⟨ok,rfl,a.bare,Un.kept keep,⟨m,D,λi x v h1 h2 h3=>?_⟩,λx c e=>?_,a.bK.fresh (bf _),λx c e=>a.fF x c (snd x c e),λp E=>?_,a.bK.kept keep,?_⟩
 ·have h1:N'[i]?=some x:=h1;have hi:¬i<own:=λz=>by unfold gq at h2;rw[DM (by simpa using z),List.getElem?_replicate]at h2;split at h2<;>cases h2
  obtain⟨j,rfl⟩:∃j,i=own+j:=⟨i-own,by lia⟩;unfold gq at h2;rw[List.getElem?_append_right (by simp),List.length_replicate,Nat.add_sub_cancel_left,ny]at h2;cases h:fr[j]? with
   |none=>rw[h]at h2;cases h2
   |some k=>
    rw[h]at h2;have h2:(σ[k]?).join=some v:=Option.some.inj h2;have G:σ[k]?=some (some v):=by cases q:σ[k]? with|none=>rw[q]at h2;cases h2|some N=>rw[q]at h2;exact congrArg some h2
    obtain⟨O,e1,e2,e3⟩:=S.fr j k h;rw[h1]at e1;cases e1;have mem:=PySem.mem_of_lookup e3;have t:=S.free _ mem rfl;obtain⟨M,L,C⟩:=a.loc;obtain⟨u,r,look⟩:=C k x v e2 G (.inr t);rcases look with⟨q,_⟩|⟨q,c,hc,o,l,hd⟩
    ·rcases t with z|z;·have z:X.env.kindOf x=some .cell:=z;rw[z]at q;cases q
     ·have z:X.env.kindOf x=some .free:=z;rw[z]at q;cases q
    ·obtain⟨A,e'⟩:=jm (env:=X.env) scope.names [] mem;have s:=snd x A e';rw[hc]at s;cases s;exact⟨u,r, .inr ⟨l7 e3,c,e',o,keep _ _ l,hd⟩⟩
 ·obtain⟨v,o,l,hd⟩:=a.cell x c (snd x c e);exact⟨v,o,keep _ _ l,hd⟩
 ·obtain⟨w,H,I,J,K⟩:=a.pin p (A1 _ (by simpa using E));refine⟨keep _ _ w,H,cW (bA w),λz=>?_,K⟩;rcases List.mem_cons.mp (a.fP _ z)with z|z;·exact I z
  ·exact J z
 ·show(gq own fr σ).length=N'.length;unfold gq;rw[S.len,iQ,List.length_replicate,cy]
theorem g8{X:Cx}{tg iter G:Expr}{P:List Expr}{scope:Scope}{pos:Pos}{wi:TI}{g:TG}{tt:TT}{te:TE}{N':List Str}{own:Nat}{fr:List Nat}(hc:X.calm=true)(S:l0 X N' own fr scope)(hi:PI X tg iter wi)(ho:Own own g)(hg:∀A w fp,PG (dr X N' scope A w fp) tg g)(hf:∀A w fp,zD (dr X N' scope A w fp) P tt)(he:∀A w fp,PE (dr X N' scope A w fp) G te)(hs:∀x,foldedSetIterable iter X.env x=pure x:=by intro _;rfl):PE X (.ListComp G [⟨tg,iter,P,0⟩] scope pos) (RH own fr wi g tt te):=by
 intro pins s σ H Q I h;have J2:∀x∈scope.names,x.2= .free->∃c,X.env.cells.lookup x.1=some c:=λx hx e=>I.ok.has x.1 (S.free x hx e);rw[eval_ListComp];refine wpAny_comprehension_free (use:=none) rfl hs (u_ J2) S.kind S.loc ?_;refine bH (hi pins s σ H _ I h) λv s1 h1=>bH h1 λitv s2 h2=>?_;obtain⟨it,fp,tn,J,d,e,I2,T,VN,f2,h2⟩:=h2;subst e;refine wpAny_newObj_type (hd:=by size_fits) (wpAny_newFunctionEnv S.ni (by intro y hy;simp at hy) (λh4 M O=>?_) S.kind);have A3:=I2.bK.fresh (bf s2.heap.objs.size);obtain⟨W,⟨m0,w0⟩,turn⟩:=h2 _ A3;have C:Inv X pins σ (upd d s2.heap.objs.size (.lst [])) {s2 with heap:=s2.heap.push {cls:= .type "list",dict:=none,data:= .seq ([]:List Value).toArray},toks:=s2.toks}:=I2.Pf .nil (dA _);have Y0:∀b∈fp,b<s2.heap.objs.size:=λb hb=>let⟨o,e,_⟩:=T.obj _ _ VN b hb;bA e;have up2:∀b o,s2.heap.get? b=some o->∀ob:Obj,(s2.heap.push ob).get? b=some o:=λb o e ob=>bC _ e;have Yz:(s2.heap.push {cls:= .type "list",dict:=none,data:= .seq ([]:List Value).toArray}).objs.size=s2.heap.objs.size+1:=Heap.size_push ..;revert M O C;generalize e3:s2.heap.push {cls:= .type "list",dict:=none,data:= .seq ([]:List Value).toArray}=h3 at Yz⊢;intro M O C;have keep:∀b o,h3.get? b=some o->h4.get? b=some o:=λb o e=>(O.2 b (cW (bA e))).trans (bC _ e);have K:∀b∈fp,lr X pins (upd d s2.heap.objs.size (.lst [])) b/\b<h3.objs.size:=λb hb=>by refine⟨⟨?_,(f2 b hb).2⟩,by rw[Yz];exact Nat.lt_succ_of_lt (Y0 b hb)⟩;rw[aI (cW (Y0 b hb))];exact(f2 b hb).1
 have D:=HA (t4:=s2.toks+([]:List (Str×Value)).length) S C K keep M;have Y:tn 0 h4:=T.keep _ _ _ VN λb hb o e=>keep b o (by rw[<-e3];exact up2 b o e _);have V:∀{H':Hp},(∀b∈fp,H' b=none)->∀b∈fp,lr (dr X N' scope {s2 with heap:=h3,toks:=s2.toks} (upd d s2.heap.objs.size (.lst [])) fp) [] H' b:=λ{H'}hn b hb=>⟨hn b hb,cW (K b hb).2,λz=>D.ok.Bl b hb z, .inl hb,(D.ok.W3 b hb).2,λp hp=>(f2 b hb).2.2.2.2.2 p (A1 _ (by simpa using hp))⟩;have loop:∀E:Shared,Inv (dr X N' scope {s2 with heap:=h3,toks:=s2.toks} (upd d s2.heap.objs.size (.lst [])) fp) [] (gq own fr σ) (upd d s2.heap.objs.size (.lst [])) E->tn 0 E.heap->codeAny (model X.prog X.w) X.A (.compLoop (.ListComp G [⟨tg,iter,P,0⟩] scope pos) 0 (.ref it) (.ref s2.heap.objs.size) (Eo X scope h3.objs.size)) (compPost (model X.prog X.w) X.A X.xe none (EP X pins σ Q) (.ref s2.heap.objs.size) h3.objs.size) E:=by
  intro E Ix tx;refine o7 (λn s'=>∃i l H',Inv (dr X N' scope {s2 with heap:=h3,toks:=s2.toks} (upd d s2.heap.objs.size (.lst [])) fp) [] (gq own fr σ) H' s'/\tn i s'.heap/\(∀b∈fp,H' b=none)/\W i n l H') ?_ m0 ⟨0,[],_,Ix,tx,λb hb=>(K b hb).1.1,w0⟩;rintro n s5⟨i,l,B,I5,OB,UA,w5⟩;rcases turn i n l B w5 with⟨stop,qn⟩|⟨go,step⟩;·refine bH (T.done (dr X N' scope {s2 with heap:=h3,toks:=s2.toks} (upd d s2.heap.objs.size (.lst [])) fp) rfl rfl rfl hc i [] s5 _ B (λ_ _=>False) I5 (V UA) OB stop) λr s6 a=>?_;obtain⟨N,m⟩:=a;subst N;obtain⟨m6,hm6,_⟩:=id m.loc;refine⟨m6,hm6,λh7 hs7=>⟨.ref s2.heap.objs.size,B,?_,rfl,qn⟩⟩;exact C.Ke (s':={s6 with heap:=h7}) (ch:=fp) m.os (uC m.base (bf _) hs7) (Bv m.bK m.free hs7) m.bare λb hb=>⟨(f2 b hb).2.2.2.1,(f2 b hb).2.1,(f2 b hb).2.2.2.2.1,(f2 b hb).2.2.2.2.2⟩
  ·refine bH (T.item (dr X N' scope {s2 with heap:=h3,toks:=s2.toks} (upd d s2.heap.objs.size (.lst [])) fp) rfl rfl rfl hc i [] s5 _ B (λ_ _=>False) I5 (V UA) OB go) λr s6 a=>?_;obtain⟨u,N,h6⟩:=a;subst N;refine bH h6 λ_ s7 a=>?_;obtain⟨x,H7,I7,r7,y7,U,fr7⟩:=a;have I7':=I7.pinned (V fr7) (T.obj _ _ U);refine bH (hg _ _ _ _ s7 _ H7 x u _ I7' r7 (ho _ _ _ _ (step x H7 y7))) λ_ s8 a=>?_;obtain⟨F,H8,I8,q8,l8,k8⟩:=a;have again:∀{k:Hp}{t:Shared},Inv (dr X N' scope {s2 with heap:=h3,toks:=s2.toks} (upd d s2.heap.objs.size (.lst [])) fp) ([]++nJ fp s7.heap) F k t->Inv (dr X N' scope {s2 with heap:=h3,toks:=s2.toks} (upd d s2.heap.objs.size (.lst [])) fp) [] (gq own fr σ) k t/\tn (i+1) t.heap/\∀b∈fp,k b=none:=λ{k t}q=>by
    refine⟨q.jl.weak l8.symm λj v e=>?_,T.keep _ _ _ U λb hb o e=>(q.pin (b,o) (lZ _ (lZ _ (eD hb e)))).1,λb hb=>?_⟩
    ·have hj:own<=j:=by refine Nat.le_of_not_lt λz=>?_;unfold gq at e;rw[DM (by simpa using z),List.getElem?_replicate]at e;split at e<;>cases e
     rw[k8 j hj];exact e
    ·obtain⟨o,e,_⟩:=T.obj _ _ U b hb;exact(q.pin (b,o) (lZ _ (lZ _ (eD hb e)))).2.1
   refine bH (hf _ _ _ _ s8 F H8 _ I8 q8) λok t a=>?_;obtain⟨k,q,q9⟩:=a;cases ok with|false=>obtain⟨R,L,w9⟩:=q9;obtain⟨a1,a2,a3⟩:=again q;exact⟨R,L,i+1,l,k,a1,a2,a3,w9⟩|true=>refine bH (he _ _ _ _ t F k _ q q9) λy IT a=>?_;obtain⟨v,Z,I10,r10,VJ,I_,R,L,w10⟩:=a;refine bH (gY _ IT F Z (.ref s2.heap.objs.size) [v] (.ref s2.heap.objs.size) [y] (λ_ Hn=>Hn=upd Z s2.heap.objs.size (.lst (l++[v]))) I10 rfl (.cons r10 .nil) ⟨_,l,v,rfl,rfl,VJ,I_,rfl⟩) λ_ Oc a=>?_;obtain⟨_,H11,I11,_,e11⟩:=a;subst e11;obtain⟨a1,a2,a3⟩:=again I11;exact⟨R,L,i+1,l++[v],_,a1,a2,a3,w10⟩
 exact codeAny_compStart_list (loop _ D Y) (f_ (T.self X.A 0 _ (λv s'=>v= .ref it/\s'=_) (λ_ _=>False) Y ⟨rfl,rfl⟩) (λv s'⟨e1,e2⟩=>by subst e1;subst e2;exact loop _ D Y) λ_ _ f=>f.elim)
def Nx(n i:Nat)(P:Prop):Prop:=∃a,a<n-i/\a=n-(i+1)/\i+1<=n/\P
theorem nx{n i:Nat}{P:Prop}(h:i<n)(p:P):Nx n i P:=⟨n-(i+1),by lia,rfl,h,p⟩
theorem mC{J:It}{p:Addr}{l:Hp}{g:TG}{q:TT}{o:TE}{b:L2.St}{Q:VK}(n:Nat)(Pv:Nat->List V->Hp->Prop)(r:Pv 0 [] (upd l p (.lst [])))(s:∀i a c,i<n->Pv i a c->J.go i c/\∀x d,J.vB i c x d->g x b d λj k=>q j k λok e=>if ok=true then o j e λv f=>f p=some (.lst a)/\a.length<sizeLine/\Nx n i (Pv (i+1) (a++[v]) (upd f p (.lst (a++[v]))))else Nx n i (Pv (i+1) a e))(hd:∀a c,Pv n a c->J.stop n c/\Q (.ref p) c):∃W:Nat->Nat->List V->Hp->Prop,(∃m,W 0 m [] (upd l p (.lst [])))/\∀i m a c,W i m a c->(J.stop i c/\Q (.ref p) c)\/(J.go i c/\∀x d,J.vB i c x d->g x b d λj k=>q j k λok e=>if ok=true then o j e λv f=>f p=some (.lst a)/\a.length<sizeLine/\∃h,h<m/\W (i+1) h (a++[v]) (upd f p (.lst (a++[v])))else∃h,h<m/\W (i+1) h a e):=by
 refine⟨λi m a H=>m=n-i/\i<=n/\Pv i a H,⟨n,by simp,dA _,r⟩,?_⟩;rintro i m a c⟨rfl,hi,w⟩;by_cases t:i<n;·exact .inr (s i a c t w)
 ·obtain rfl:i=n:=by lia
  exact .inl (hd a c w)
end L3
end
section
namespace L3
open PySem L2
section
variable{prog:Program}{w:World}{A:Around}{E:Value->Shared->Prop}{s:Shared}
end
structure nW(z TI TO i1 i2:Nat)(f1 f2:List Nat):Prop where
 TIz:TI≠z
 TOz:TO≠z
 TITO:TI≠TO
 TI1:TI≠i1
 TI2:TI≠i2
 TO1:TO≠i1
 TO2:TO≠i2
 i1z:i1≠z
 i2z:i2≠z
 zf1:z∉f1
 zf2:z∉f2
 Tf1:TO∉f1
 Tf2:TO∉f2
 abD:i2∉f1
 acF:i1∉f2
section
variable{prog:Program}{w:World}{A:Around}{E:Value->Shared->Prop}{s:Shared}
variable{z TI TO i1 i2:Addr}{f1 f2:List Addr}{n1 n2:Nat}{P1 P2:Nat->Value->Prop}{S1 S2:Nat->Heap->Prop}
theorem JE{i:Nat}{a b:Value}{Q:Value->Shared->Prop}(D1:Draws prog w A i1 f1 n1 P1 S1)(D:Draws prog w A i2 f2 n2 P2 S2)(d:nW z TI TO i1 i2 f1 f2)(p:IsZip s.heap z TI TO .none)(S:IsPair s.heap TI (.ref i1) (.ref i2))(T:IsPair s.heap TO a b)(s1:S1 i s.heap)(s2:S2 i s.heap)(l1:i<n1)(l2:i<n2)(U:∀x y h' tk,P1 i x->P2 i y->IsZip h' z TI TO (rawInt s.heap.objs.size)->IsPair h' TO x y->S1 (i+1) h'->S2 (i+1) h'->IsPair h' s.heap.objs.size x y->(∀c o,c≠z->c≠TO->c≠i1->c≠i2->s.heap.get? c=some o->h'.get? c=some o)->Q (.ref s.heap.objs.size) {s with heap:=h',toks:=tk}):wpAny (model prog w) A (Builtin.«zip.__next__» ⟨[.ref z],[]⟩) (λfin s'=>∃v,fin= .done (.ret v)/\Q v s') E s:=by
 have r:∀{k:Nat}{h h':Heap}{c:Addr},c∉f1->Heap.SameBut c h h'->S1 k h->S1 k h':=λ{k h h' c}hc sb st=>D1.frame _ _ _ st λq hq o e=>(sb.2 q λz=>hc (z▸hq)).trans e;have t:∀{k:Nat}{h h':Heap}{c:Addr},c∉f2->Heap.SameBut c h h'->S2 k h->S2 k h':=λ{k h h' c}hc sb st=>D.frame _ _ _ st λq hq o e=>(sb.2 q λz=>hc (z▸hq)).trans e;show wpAny (model prog w) _ (field (.ref z) 2>>=_) _ _ _;refine ao (dC p rfl (x:= .bool false) rfl ?_);show wpAny (model prog w) _ (field (.ref z) 3>>=_) _ _ _;refine ao (dC p rfl (x:= .ref TI) rfl ?_);refine ao (wpAny_seqItems S rfl ?_);show wpAny (model prog w) _ (Builtin.SmallTypes.ownedTupleIsFree (.ref z)>>=_) _ _ _;refine ao ?_;unfold Builtin.SmallTypes.ownedTupleIsFree;refine ao (dC p rfl (x:= .none) rfl (aU ?_));simp only[if_true];refine ao (wpAny_rule ?_);refine ao (dC p rfl (x:= .ref TO) rfl ?_);refine ao (wpAny_setField_rec p (by simp) λV I g=>?_);replace I:IsZip V z TI TO .ellipsis:=I;refine ao ?_;simp only[List.zipIdx_cons,List.zipIdx_nil,List.forIn_cons,List.forIn_nil];refine ao (ao (wpAny_onRaise ?_));show wpAny (model prog w) _ (Builtin.SmallTypes.nextOf (.ref i1)>>=_) _ _ _;refine ao (D1.item i _ _ _ l1 (r d.zf1 g s1) λx W t2 px q2 j=>aU ?_);have N:IsPair W TO a b:=j.extBut _ _ d.TO1 (g.extBut _ _ d.TOz T);refine ao (wpAny_seqItems N rfl ?_);refine ao (wpAny_updateSeq_pair N λX H l=>?_);replace H:IsPair X TO x b:=H;refine ao (wpAny_letGo (aU ?_));refine ao (ao (wpAny_onRaise ?_));show wpAny (model prog w) _ (Builtin.SmallTypes.nextOf (.ref i2)>>=_) _ _ _;refine ao (D.item i _ _ _ l2 (t d.Tf2 l (t d.acF j (t d.zf2 g s2))) λy Y t4 py q4 m=>aU ?_);have O:IsPair Y TO x b:=m.extBut _ _ d.TO2 H;refine ao (wpAny_seqItems O rfl ?_);refine ao (wpAny_updateSeq_pair O λf B n=>?_);replace B:IsPair f TO x y:=B;refine ao (wpAny_letGo (aU (aU ?_)));refine ao (wpAny_seqItems B rfl ?_);refine ao (wpAny_newTuple ?_);have sz:f.objs.size=s.heap.objs.size:=by rw[n.1,m.1,l.1,j.1,g.1]
 have R:IsZip f z TI TO .ellipsis:=n.extBut _ _ d.TOz.symm (m.extBut _ _ d.i2z.symm (l.extBut _ _ d.TOz.symm (j.extBut _ _ d.i1z.symm I)));have kp:∀c o,c≠z->c≠TO->c≠i1->c≠i2->s.heap.get? c=some o->f.get? c=some o:=λc o c1 c2 F G e=>n.extBut _ _ c2 (m.extBut _ _ G (l.extBut _ _ c2 (j.extBut _ _ F (g.extBut _ _ c1 e))));have q1':S1 (i+1) f:=r d.Tf1 n (r d.abD m (r d.Tf1 l q2));have q2':S2 (i+1) f:=t d.Tf2 n q4;have M:z<f.objs.size:=bA R;show wpAny (model prog w) _ (Builtin.SmallTypes.ownedTupleHandOut (.ref z) (.ref f.objs.size)>>=_) _ _ _;refine ao ?_;unfold Builtin.SmallTypes.ownedTupleHandOut;have z6:IsZip (f.push {cls:= .type "tuple",data:= .seq #[x,y]}) z TI TO .ellipsis:=bC _ R;refine ao (wpAny_setField_rec z6 (by simp) λZ J K=>?_);replace J:IsZip Z z TI TO (rawInt f.objs.size):=J;refine wpAny_setField_rec J (by simp) λu C L=>?_;replace C:IsZip u z TI TO (rawInt f.objs.size):=C;have up:∀c o,c≠z->f.get? c=some o->u.get? c=some o:=λc o c1 e=>L.extBut _ _ c1 (K.extBut _ _ c1 (bC _ e));have P:IsPair u f.objs.size x y:=L.extBut _ _ (Nat.ne_of_gt M) (K.extBut _ _ (Nat.ne_of_gt M) (eI _ rfl));rw[sz]at C P;refine aU ⟨_,rfl,?_⟩;show Q (.ref f.objs.size) _;rw[sz];exact U x y u _ px py C (up _ _ d.TOz B) (D1.frame _ _ _ q1' λq hq o e=>up q o (λz=>d.zf1 (z▸hq)) e) (D.frame _ _ _ q2' λq hq o e=>up q o (λz=>d.zf2 (z▸hq)) e) P λc o c1 c2 F G e=>up c o c1 (kp c o c1 c2 F G e)
theorem IL{a b:Value}{Q:Fin->Shared->Prop}(D1:Draws prog w A i1 f1 n1 P1 S1)(h:nW z TI TO i1 i2 f1 f2)(d:IsZip s.heap z TI TO .none)(p:IsPair s.heap TI (.ref i1) (.ref i2))(D:IsPair s.heap TO a b)(s1:S1 n1 s.heap)(r:∀h' e,(∀c o,c≠z->c≠TO->c≠i1->c≠i2->s.heap.get? c=some o->h'.get? c=some o)->(∃o,h'.get? e=some o/\o.cls= .type "StopIteration")->E (.ref e) {s with heap:=h'}):wpAny (model prog w) A (Builtin.«zip.__next__» ⟨[.ref z],[]⟩) Q E s:=by
 show wpAny (model prog w) _ (field (.ref z) 2>>=_) _ _ _;refine ao (dC d rfl (x:= .bool false) rfl ?_);show wpAny (model prog w) _ (field (.ref z) 3>>=_) _ _ _;refine ao (dC d rfl (x:= .ref TI) rfl ?_);refine ao (wpAny_seqItems p rfl ?_);show wpAny (model prog w) _ (Builtin.SmallTypes.ownedTupleIsFree (.ref z)>>=_) _ _ _;refine ao ?_;unfold Builtin.SmallTypes.ownedTupleIsFree;refine ao (dC d rfl (x:= .none) rfl (aU ?_));simp only[if_true];refine ao (wpAny_rule ?_);refine ao (dC d rfl (x:= .ref TO) rfl ?_);refine ao (wpAny_setField_rec d (by simp) λu g i=>?_);replace g:IsZip u z TI TO .ellipsis:=g;refine ao ?_;simp only[List.zipIdx_cons,List.zipIdx_nil,List.forIn_cons,List.forIn_nil];refine ao (ao (wpAny_onRaise ?_));show wpAny (model prog w) _ (Builtin.SmallTypes.nextOf (.ref i1)>>=_) _ _ _;refine ao (D1.done _ _ _ (D1.frame _ _ _ s1 λq hq o e=>(i.2 q λy=>h.zf1 (y▸hq)).trans e) λv e j t=>?_);obtain⟨oe,f,l⟩:=t;have m:IsZip v z TI TO .ellipsis:=j _ _ h.i1z.symm g;have C:e≠z:=λq=>by subst q;rw[m]at f;cases f;simp at l
 refine wpAny_setField_rec m (by simp) λB _ k=>r B e (λc o c1 _ n _ q=>k.extBut _ _ c1 (j _ _ n (i.extBut _ _ c1 q))) ⟨oe,k.extBut _ _ C f,l⟩
theorem IE{i:Nat}{a b:Value}{Q:Option Value->Shared->Prop}(D1:Draws prog w A.in1 i1 f1 n1 P1 S1)(e:Draws prog w A.in1 i2 f2 n2 P2 S2)(f:nW z TI TO i1 i2 f1 f2)(d:IsZip s.heap z TI TO .none)(g:IsPair s.heap TI (.ref i1) (.ref i2))(h:IsPair s.heap TO a b)(s1:S1 i s.heap)(s2:S2 i s.heap)(k:i<n1)(l:i<n2)(j:∀x y h' tk,P1 i x->P2 i y->IsZip h' z TI TO (rawInt s.heap.objs.size)->IsPair h' TO x y->S1 (i+1) h'->S2 (i+1) h'->IsPair h' s.heap.objs.size x y->(∀c o,c≠z->c≠TO->c≠i1->c≠i2->s.heap.get? c=some o->h'.get? c=some o)->Q (some (.ref s.heap.objs.size)) {s with heap:=h',toks:=tk}):wpAny (model prog w) A (pyNext (.ref z)) Q E s:=by have ty:s.TypeIs (.ref z) "zip":=⟨_,d,rfl⟩;unfold pyNext;refine ao (wpAny_attempt (wpAny_callSpecial?_slot (name:=Str.ofString "__next__") ty F.slot_zip_next (jO F.slot_zip_next ty F.entry_zip_next ?_ (F.args_zip_next_1 _))));exact JE D1 e f d g h s1 s2 k l λx y h' tk a1 a2 a3 a4 a5 a6 a7 a8=>aU (j x y h' tk a1 a2 a3 a4 a5 a6 a7 a8)
theorem Jy{a b:Value}{Q:Option Value->Shared->Prop}(D1:Draws prog w A.in1 i1 f1 n1 P1 S1)(f:nW z TI TO i1 i2 f1 f2)(d:IsZip s.heap z TI TO .none)(g:IsPair s.heap TI (.ref i1) (.ref i2))(h:IsPair s.heap TO a b)(s1:S1 n1 s.heap)(i:∀h',(∀c o,c≠z->c≠TO->c≠i1->c≠i2->s.heap.get? c=some o->h'.get? c=some o)->Q none {s with heap:=h'}):wpAny (model prog w) A (pyNext (.ref z)) Q E s:=by have ty:s.TypeIs (.ref z) "zip":=⟨_,d,rfl⟩;unfold pyNext;refine ao (wpAny_attempt (wpAny_callSpecial?_slot (name:=Str.ofString "__next__") ty F.slot_zip_next (jO F.slot_zip_next ty F.entry_zip_next (IL D1 f d g h s1 λh' e k j=>?_) (F.args_zip_next_1 _))));obtain⟨o,l,hc⟩:=j;refine ao (wpAny_isInstance (T:="StopIteration") (b:=true) ⟨o,l,hc⟩ isSubtype_stop (aU (i _ k)))
end
section
variable{prog:Program}{w:World}{A:Around}{E:Value->Shared->Prop}{s:Shared}
end
end L3
end
section
namespace L3
open PySem PySem.Spec PyProof.Rows L2
section
variable{X:Cx}{pins:List (Addr×Obj)}{σ:L2.St}{H:Hp}{s:Shared}{h':Heap}
theorem wz{t':Nat}{ch:List Addr}{T:Addr}{o:HO}(I:Inv X pins σ H s)(k:∀b ob,b∉ch->s.heap.get? b=some ob->h'.get? b=some ob)(a:∀b∈ch,lr X pins H b)(d:s.heap.objs.size<=T)(new:bZ X.prog X.w (upd H T o) h' T o):Inv X pins σ (upd H T o) {s with heap:=h',toks:=t'}:=by
 have hn:H T=none:=I.bK.fresh d;have f:∀b u,H b=some u->b∉ch:=λb u e z=>by rw[(a b z).1]at e;cases e
 refine I.step (g':=s.gens) (d':=s.drawn) (ch:=ch) (λb hb=>⟨(a b hb).2.2.2.1,(a b hb).2.1,(a b hb).2.2.2.2.1,(a b hb).2.2.2.2.2⟩) (λb ob _ _ hc e _=>k b ob hc e) (λb ob _ _ hc e _=>⟨ob.slots,k b ob hc e⟩) (λb ob _ e n=>by rw[aI (cW (gb (bA e) d))];exact n) (λb ob hc e=>⟨ob,k b ob hc e⟩) (λb xs e=>by rw[aI (aD e hn)];exact e) (λb ob u e=>by rw[aI (aD e hn)];exact e) (λb ps e=>(by rw[aI (aD e hn),e])) (λm hm=>?_) (λb u e=>?_) I.bare;·obtain⟨ob,es,ep,g,r⟩:=hm;exact⟨ob,es,ep,k _ ob (λz=>(a _ z).2.1 rfl) g,r⟩
 ·by_cases hb:b=T;·subst hb;rw[aq]at e;cases e;exact new
  ·rw[aI hb]at e;refine(I.bK b u e).vE (λc v hc q=>k c v ?_ q) (λc q=>by rw[aI (aD q hn)];exact q) λc xs q=>by rw[aI (aD q hn)];exact q
   rcases hc with z|z;·rw[z];exact f b u e
   ·exact f c _ z
theorem Gz{t':Nat}{ch:List Addr}(I:Inv X pins σ H s)(k:∀b ob,b∉ch->s.heap.get? b=some ob->h'.get? b=some ob)(a:∀b∈ch,lr X pins H b):Inv X pins σ H {s with heap:=h',toks:=t'}:=by
 have d:∀b u,H b=some u->b∉ch:=λb u e z=>by rw[(a b z).1]at e;cases e
 refine I.step (g':=s.gens) (d':=s.drawn) (ch:=ch) (λb hb=>⟨(a b hb).2.2.2.1,(a b hb).2.1,(a b hb).2.2.2.2.1,(a b hb).2.2.2.2.2⟩) (λb ob _ _ hc e _=>k b ob hc e) (λb ob _ _ hc e _=>⟨ob.slots,k b ob hc e⟩) (λb ob _ e n=>n) (λb ob hc e=>⟨ob,k b ob hc e⟩) (λb xs e=>e) (λb ob u e=>e) (λb ps e=>(by rw[e])) (λm hm=>?_) (λb u e=>?_) I.bare;·obtain⟨ob,es,ep,f,r⟩:=hm;exact⟨ob,es,ep,k _ ob (λz=>(a _ z).2.1 rfl) f,r⟩
 ·refine(I.bK b u e).vE (λc v hc q=>k c v ?_ q) (λ_ q=>q) λ_ _ q=>q;rcases hc with z|z;·rw[z];exact d b u e
  ·exact d c _ z
end
noncomputable def Its(z:Str):It:=⟨λi _=>i<z.cps.size,λi H x H'=>H'=H/\∃c,z.cps[i]?=some c/\x= .str ⟨#[c]⟩,λi _=>z.cps.size<=i⟩
theorem LX{P:Program}{w:World}{K:PySem.W.Frag}{tg:Expr}(it:Addr)(z:Str)(t:Tok):Turn P w K tg (Its z) [it] it (λi h=>h.IsStrIter it (strIterType z) z t i)where
 mem:=by simp
 obj:=λi h st b hb=>by
  obtain rfl:b=it:=by simpa using hb
  obtain⟨o,e,c,d⟩:=st;exact⟨o,e,λv q=>by rw[d]at q;cases q⟩
 keep:=λi h h' st k=>by obtain⟨o,e,r⟩:=st;exact⟨o,k it (by simp) o e,r⟩
 item:=by
  intro X y hw p hc i pins s σ H E I l st j;subst y hw p;have hi:i<z.cps.size:=j;have a:z.cps[i]?=some z.cps[i]:=by simp[hi]
  obtain⟨m,f1,f2,f,n,g⟩:=l it (by simp);have fin:∀h',h'.IsStrIter it (strIterType z) z t (i+1)->Heap.SameBut it s.heap h'->∃u,some (Value.str ⟨#[z.cps[i]]⟩ s.toks)=some u/\wpAny (model X.prog X.w) X.A (letOwnedTupleGo tg (.ref it) u) (λ_ s2=>∃x H',Inv X pins σ H' s2/\RelV x u/\(Its z).vB i H x H'/\s2.heap.IsStrIter it (strIterType z) z t (i+1)/\∀b∈[it],H' b=none) E {s with heap:=h',toks:=s.toks+1}:=by intro h' B sb;have C:Inv X pins σ H {s with heap:=h',toks:=s.toks+1}:=I.turned (λb o hb e=>(sb.2 b hb).trans e) m f1 f n g;obtain⟨o,e,c,d⟩:=id B;refine⟨_,rfl,Bo (s:={s with heap:=h',toks:=s.toks+1}) e c d (by unfold strIterType;split<;>decide) ⟨.str ⟨#[z.cps[i]]⟩,H,C,⟨_,rfl⟩,⟨rfl,_,a,rfl⟩,B,λb hb=>(l b hb).1⟩⟩
  cases ha:z.cps.all (·<128)with
   |true=>
    have e:strIterType z="str_ascii_iterator":=by simp[strIterType,ha]
    rw[e]at st fin⊢;exact wpAny_pyNext_ascii_item st a fin
   |false=>
    have e:strIterType z="str_iterator":=by simp[strIterType,ha]
    rw[e]at st fin⊢;exact wpAny_pyNext_wide_item st a fin
 done:=by
  intro X y hw p hc i pins s σ H E I l st j;subst y hw p;have a:z.cps[i]?=none:=by have j:z.cps.size<=i:=j;simpa using j
  obtain⟨m,f1,f2,f,n,g⟩:=l it (by simp);have fin:∀h',Heap.ExtBut it s.heap h'->(none:Option Value)=none/\Inv X pins σ H {s with heap:=h'}:=λh' D=>⟨rfl,I.turned (t':=s.toks) (λb o hb e=>D b o hb e) m f1 f n g⟩;cases ha:z.cps.all (·<128)with
   |true=>
    have e:strIterType z="str_ascii_iterator":=by simp[strIterType,ha]
    rw[e]at st;exact uv (I.hb hc) (I.MO hc f g) st a fin
   |false=>
    have e:strIterType z="str_iterator":=by simp[strIterType,ha]
    rw[e]at st;exact vN (I.hb hc) (I.MO hc f g) st a fin
 self:=λA i s Q E st h=>by
  cases ha:z.cps.all (·<128)with
   |true=>
    have e:strIterType z="str_ascii_iterator":=by simp[strIterType,ha]
    rw[e]at st;exact wpAny_pyIter_striter_ascii st h
   |false=>
    have e:strIterType z="str_iterator":=by simp[strIterType,ha]
    rw[e]at st;exact wpAny_pyIter_striter_wide st h
noncomputable def abn(b:TE):TI:=λσ H R=>b σ H λx a=>∃z,x= .str z/\R (Its z) a
theorem Mo{X:Cx}{tg l:Expr}{c:TE}(hl:PE X l c):PI X tg l (abn c):=by
 intro pins s σ H R I h;refine bH (hl pins s σ H _ I h) λv s1 g=>?_;obtain⟨x,d,a,f,z,e,q⟩:=g;subst e;obtain⟨t,rfl⟩:=f;refine wpAny_pyIter_strU ?_;refine⟨s1.heap.objs.size,[s1.heap.objs.size],_,Its z,d,rfl,a.kept (t':=s1.toks) λb o e=>bC _ e,LX _ z t,⟨_,eI _ rfl,rfl,rfl⟩,λb hb=>?_,q⟩;obtain rfl:b=s1.heap.objs.size:=by simpa using hb
 exact a.EV (bf _) (a.bK.fresh (bf _))
structure acT(a b z TI TO i1 i2:Addr)(i:Nat)(h:Heap):Prop where
 z:IsZip h z TI TO .none
 TI:IsPair h TI (.ref i1) (.ref i2)
 TO:∃u v,IsPair h TO u v
 i1:h.IsTupleIter i1 a i
 i2:h.IsTupleIter i2 b i
section
variable{X:Cx}
theorem cI:iF X (.builtin "isinstance") (λxs H Q=>∃x t n b,xs=[x, .ty n]/\kH X.K H x t/\PySem.W.kitOne X.K t (.type n)=some b/\Q (.bl b) H):=by intro pins s σ H xs us Q I r h;obtain⟨x,t,n,b,rfl,ty,e,q⟩:=h;obtain⟨u,v,rfl,a,c⟩:=r.two;obtain rfl:v=Value.type n:=c;exact JN I a ty e λtk=>⟨.bl b,H,I.tok tk,rfl,q⟩
theorem GX:∀{bs:List Bool}{us:List Value},Vals (bs.map V.bl) us->∀(i:Nat)(u:Value),us[i]?=some u->u=Value.bool ((bs[i]?).getD true)|[],_, .nil,i,u,e=>by simp at e|b::bs,_, .cons r t,0,u,e=>by have r:_=Value.bool b:=r;simp at e;rw[<-e,r];rfl|b::bs,_, .cons r t,i+1,u,e=>by simpa using GX t i u (by simpa using e)
theorem lY(hc:X.calm=true):iF X (.builtin "all") (λxs H Q=>∃(p:Addr)(bs:List Bool),xs=[.ref p]/\bI X.K H p (bs.map V.bl)/\Q (.bl (bs.all id)) H):=by
 intro pins s σ H xs us Q I r h;obtain⟨p,bs,rfl,hq,q⟩:=h;obtain⟨u,rfl,w⟩:=r.one;cases w;obtain⟨its,f,pl,B⟩:=I.list hq;have hl:=pl.isList;have lt:p<s.heap.objs.size:=by obtain⟨o,e,_⟩:=hl;exact bA e
 have t:∀a,X.A.in1.handled=some (.ref a)->a≠s.heap.objs.size:=λa c=>by
  rcases I.hb hc with z|⟨b,oe,vs,e1,e2,_⟩;·rw[show X.A.in1.handled=X.A.handled from rfl,z]at c;cases c
  ·rw[show X.A.in1.handled=X.A.handled from rfl,e1]at c;cases c;exact cW (bA e2)
 refine call_all_walk (wpAny_pyIter_list hl ?_);refine⟨s.heap.objs.size,_,[s.heap.objs.size],its.toArray.size,_,_,λi=>(bs[i]?).getD true,rfl,uL _ p (cW lt) its.toArray t,⟨⟨_,eI _ rfl,rfl,rfl⟩,hl.push _,(I.hb hc).mono λa o _ g=>bC _ g⟩,λi v s' A y j k=>?_,λh' tk l=>?_⟩;·have e:v= .bool ((bs[i]?).getD true):=GX f i v (by simpa using j);subst e;exact uH k
 ·have e:((List.range its.toArray.size).all λi=>(bs[i]?).getD true)=bs.all id:=by
   have n:its.toArray.size=bs.length:=by rw[cE,<-f.length,cy]
   rw[n];clear n;rw[Bool.eq_iff_iff,List.all_eq_true,List.all_eq_true];constructor;·intro z x m;obtain⟨i,hi,rfl⟩:=List.mem_iff_getElem.mp m;have :=z i (by simpa using hi);simpa[hi]using this
   ·intro z i hi;have hi:i<bs.length:=by simpa using hi
    have :=z bs[i] (List.getElem_mem hi);simpa[hi]using this
  refine⟨.bl (bs.all id),H,I.kept (h':=h') (t':=tk) λb o d=>l b o (λhm=>?_) (bC _ d),by rw[e];rfl,q⟩;rw[List.mem_singleton.mp hm]at d;exact Nat.lt_irrefl _ (bA d)
end
structure iy(K:PySem.W.Frag)(a:Addr)(D:List (Str×V)):Prop where
 sys:(a==sysModules)=false
 ex:∃o es ep,K.lookup a=some o/\o.ExactDict/\o.data= .dict es ep/\KTD.Rows RelV es.toList D
section
variable{X:Cx}{pins:List (Addr×Obj)}{σ:L2.St}{H:Hp}{s:Shared}{a:Addr}{D:List (Str×V)}{k:Str}{tk:Tok}{A:Around}{E:Value->Shared->Prop}
theorem iy.typeIs(T:iy X.K a D)(I:Inv X pins σ H s):s.TypeIs (.ref a) "dict":=let⟨o,_,_,e,x,_⟩:=T.ex;⟨o,I.gL a o e,x.1⟩
theorem sR{Q:Option Value->Shared->Prop}(T:iy X.K a D)(I:Inv X pins σ H s)(h1:∀v u,KTD.datumAt k D=some v->RelV v u->Q (some u) {s with toks:=s.toks+1})(h2:KTD.datumAt k D=none->Q none {s with toks:=s.toks+1}):wpAny (model X.prog X.w) A (dictGet a (.str k tk)) Q E s:=by
 obtain⟨_,o,es,ep,n,_,g,f⟩:=T;have h:=I.gL a o n;unfold dictGet;try with_reducible refine iJ ?_
 have j:(es.all λe=>isExactStrKey e.key)=true:=by obtain⟨l⟩:=es;simpa using f.exact
 refine ao (wpAny_pyHash_str (ao (KTD.kt_dictFind_strs (s:={s with toks:=s.toks+1}) h g j ?_)));have b:Q (findBy (λk v=>v.isStr k) es k) {s with toks:=s.toks+1}:=by
  have m:findBy (λk v=>v.isStr k) es k=(es.toList.find? λe=>e.key.isStr k).map (·.val):=by obtain⟨l⟩:=es;simp[findBy]
  rw[m];cases c:KTD.datumAt k D with|some d=>obtain⟨v,q,p⟩:=f.find_some c;rw[q];exact h1 d v c p|none=>rw[f.find_none c];exact h2 c
 rw[findBy_of_findIdx?]at b;cases hi:es.findIdx? λe=>e.key.isStr k with|none=>rw[hi]at b;exact aU b|some i=>rw[hi]at b;exact ao (wpAny_dictEntries (s:={s with toks:=s.toks+1}) h g (aU b))
theorem KZ{Q:Value->Shared->Prop}{v:V}(T:iy X.K a D)(I:Inv X pins σ H s)(hd:KTD.datumAt k D=some v)(h:∀u,RelV v u->Q u {s with toks:=s.toks+1}):wpAny (model X.prog X.w) A (getItem (.ref a) (.str k tk)) Q E s:=by
 have ty:=T.typeIs I;unfold getItem;try with_reducible refine iJ ?_
 refine ao (wpAny_sequenceKey ty (by decide) ?_);refine ao (wpAny_callSpecial?_slot (name:=Str.ofString "__getitem__") ty slot_dict_getitem (jO slot_dict_getitem ty entry_dict_getitem ?_ (args_dict_getitem _ _)));show wpAny (model X.prog X.w) _ (dictGet a (.str k tk)>>=_) _ _ s;refine ao (sR T I (λb u e r=>?_) λhn=>?_);·rw[hd]at e;cases e;exact aU ⟨u,rfl,aU (h u r)⟩
 ·rw[hd]at hn;cases hn
noncomputable def DG(k:Str)(D:List (Str×V)):Bool:=(KTD.datumAt k D).isSome
theorem yN{Q:Bool->Shared->Prop}(T:iy X.K a D)(I:Inv X pins σ H s)(h:Q (DG k D) {s with toks:=s.toks+1}):wpAny (model X.prog X.w) A (contains (.ref a) (.str k tk)) Q E s:=by
 have ty:=T.typeIs I;unfold contains;try with_reducible refine iJ ?_
 refine ao (wpAny_specialOf ty slot_dict_contains.lookup ?_);show wpAny (model X.prog X.w) _ (if(some (Value.builtin "dict.__contains__")==some Value.none)=true then _ else _) _ E s;rw[if_neg (by rw[beq_builtin_none];exact eC)];refine ao (wpAny_callSpecialUnlessNone?_slot (name:=Str.ofString "__contains__") ty slot_dict_contains (jO slot_dict_contains ty entry_dict_contains ?_ (args_dict_contains _ _)));show wpAny (model X.prog X.w) _ (dictGet a (.str k tk)>>=_) _ _ s;refine ao (sR T I (λv u e _=>?_) λhn=>?_)
 ·have hb:DG k D=true:=by unfold DG;rw[e];rfl
  rw[hb]at h;show wpAny (model X.prog X.w) _ (ret (.bool true)) _ _ _;exact aU ⟨_,rfl,uH h⟩
 ·have hb:DG k D=false:=by unfold DG;rw[hn];rfl
  rw[hb]at h;show wpAny (model X.prog X.w) _ (Builtin.Dict.pendingKey? a (.str k tk)>>=_) _ _ _;exact ao (wpAny_pendingKey_other T.sys (aU ⟨_,rfl,uH h⟩))
end
section
variable{X:Cx}
theorem ly:mf X (compareOp .NotIn) (λx y H Q=>∃k a D,x= .str k/\y= .ref a/\iy X.K a D/\Q (.bl (!DG k D)) H):=by intro pins s σ H x y v u Q I b c h;obtain⟨k,a,D,rfl,rfl,T,q⟩:=h;obtain⟨t,rfl⟩:=b;cases c;show wpAny (model X.prog X.w) _ (do return Value.bool (!(<-contains (.ref a) (.str k t))):Sem Value) _ _ s;exact ao (yN T I (aU ⟨.bl _,H,I.tok _,rfl,q⟩))
noncomputable def abF(K:PySem.W.Frag):R2:=λx y H Q=>∃a D k v,x= .ref a/\y= .str k/\iy K a D/\KTD.datumAt k D=some v/\Q v H
theorem NP{o i:Expr}{m:Pos}{td ty:TE}(j:PE X o td)(hi:PE X i ty)(l:VW i):PE X (.Subscript o i m) (Xm (abF X.K) td ty):=by intro pins s σ H Q I h;refine Ga PySem.F.slot_dict_getitem.lookup l (bH (j pins s σ H _ I h) λu s1⟨x,c,f,q,n⟩=>bH (hi pins s1 σ c _ f n) λA s2 z=>?_);obtain⟨y,d,b,w,a,D,k,v,ex,g,T,e,p⟩:=z;subst ex g;cases q;obtain⟨t,rfl⟩:=w;exact⟨T.typeIs b,KZ T b e λu r=>⟨v,d,b.tok _,r,p⟩⟩
end
end L3
end
section
namespace KM
open PySem
inductive D where|aO|bl(b:Bool)|int(i:Int)|str(x:Str)|tup(ds:List D)deriving Inhabited
mutual noncomputable def aX:D->Nat| .tup ds=>1+aY ds| .aO=>0| .bl _=>0| .int _=>0| .str _=>0 noncomputable def aY:List D->Nat|[]=>0|d::r=>aX d+aY r end
mutual noncomputable def depth:D->Nat| .tup ds=>1+aw ds| .aO=>0| .bl _=>0| .int _=>0| .str _=>0 noncomputable def aw:List D->Nat|[]=>0|d::r=>max (depth d) (aw r)end
noncomputable def isTup:D->Bool| .tup _=>true|_=>false
noncomputable def tk:D->List D| .tup ds=>ds.filter isTup|_=>[]
noncomputable def lv:Nat->List D->List D|0,l=>l|n+1,l=>lv n (l.flatMap tk)
theorem kb:∀l:List D,aY (l.filter isTup)=aY l|[]=>rfl|d::r=>by have a:=kb r;cases d<;>simp[isTup,List.filter_cons,aY,aX,a]
theorem jX:∀l:List D,aw (l.filter isTup)=aw l|[]=>rfl|d::r=>by have a:=jX r;cases d<;>simp[isTup,List.filter_cons,aw,depth,a]
theorem uD:∀l r:List D,aY (l++r)=aY l+aY r|[],r=>by simp[aY]|d::l,r=>by simp[aY,uD l r];lia
theorem vz:∀l r:List D,aw (l++r)=max (aw l) (aw r)|[],r=>by simp[aw]|d::l,r=>by simp only[List.cons_append,aw,vz l r];exact(Nat.max_assoc _ _ _).symm
theorem Mm:∀d:D,isTup d=true->aX d=1+aY (tk d)| .tup ds,_=>by simp[aX,tk,kb]
theorem Cq:∀d:D,isTup d=true->depth d=1+aw (tk d)| .tup ds,_=>by simp[depth,tk,jX]
theorem Pd(d:D):∀x∈tk d,isTup x=true:=by cases d<;>simp[tk]
theorem tT:∀l:List D,(∀x∈l,isTup x=true)->aY l=l.length+aY (l.flatMap tk)|[],_=>rfl|d::r,h=>by have h1:=tT r λx a=>h x (cF _ a);have h2:=Mm d (h d cj);simp only[List.flatMap_cons,uD,aY,dY];lia
theorem kO:∀l:List D,(∀x∈l,isTup x=true)->l≠[]->aw l=1+aw (l.flatMap tk)|[],_,h=>(h rfl).elim|[d],h,_=>by have h2:=Cq d (h d cj);simp only[List.flatMap_cons,List.flatMap_nil,gc,aw];lia|d::e::r,h,_=>by have h1:=kO (e::r) (λx a=>h x (cF _ a)) (by simp);have h2:=Cq d (h d cj);rw[List.flatMap_cons,vz];have h3:aw (d::e::r)=max (depth d) (aw (e::r)):=rfl;lia
theorem nF(l:List D):∀x∈l.flatMap tk,isTup x=true:=by intro x a;obtain⟨d,_,h⟩:=List.mem_flatMap.mp a;exact Pd d x h
theorem Nr:∀n,lv n []=[]|0=>rfl|n+1=>by rw[lv,List.flatMap_nil];exact Nr n
theorem sd:∀n l,lv (n+1) l=(lv n l).flatMap tk|0,l=>rfl|n+1,l=>by rw[lv,sd n,<-lv]
theorem G6:∀n l,(∀x∈l,isTup x=true)->∀x∈lv n l,isTup x=true|0,_,h=>h|n+1,l,_=>G6 n _ (nF l)
noncomputable def fK:Nat->List D->Nat|0,_=>0|n+1,l=>fK n l+(lv n l).length
theorem uS:∀n l,fK (n+1) l=l.length+fK n (l.flatMap tk)|0,l=>by simp[fK,lv]|n+1,l=>by have :=uS n l;simp only[fK]at this⊢;rw[show lv (n+1) l=lv n (l.flatMap tk)from rfl];lia
theorem kG:∀n l,(∀x∈l,isTup x=true)->aY l=fK n l+aY (lv n l)|0,l,_=>by simp[fK,lv]|n+1,l,h=>by have h1:=tT l h;have h2:=kG n (l.flatMap tk) (nF l);rw[uS,show lv (n+1) l=lv n (l.flatMap tk)from rfl];lia
theorem uZ:∀n l,(∀x∈l,isTup x=true)->(lv n l=[]↔aw l<=n)
 |0,l,h=>by
  cases l with
   |nil=>simp[lv,aw]
   |cons d r=>
    have :=kO (d::r) h (by simp);simp only[lv];constructor;·intro q;cases q
    ·intro q;lia
 |n+1,l,h=>by cases l with|nil=>simp[Nr,aw]|cons d r=>have h1:=kO (d::r) h (by simp);have h2:=uZ n ((d::r).flatMap tk) (nF _);rw[show lv (n+1) (d::r)=lv n ((d::r).flatMap tk)from rfl,h2];lia
theorem tR(n:Nat)(l:List D)(h:∀x∈l,isTup x=true):fK n l<=aY l:=by have :=kG n l h;lia
theorem IX(l:List D)(h:∀x∈l,isTup x=true):(fK 40 l<=600/\lv 40 l=[])↔(aY l<=600/\aw l<=40):=by
 rw[uZ 40 l h];have e:=kG 40 l h;constructor;·rintro⟨h1,h2⟩;rw[(uZ 40 l h).mpr h2]at e;simp only[aY]at e;exact⟨by lia,h2⟩
 ·rintro⟨h1,h2⟩;exact⟨by lia,h2⟩
end KM
end
section
namespace L3
open PySem PySem.Spec PyProof.Rows L2 KM
mutual/--v stands for d on the heap H -/noncomputable def Rep(H:Hp):D->V->Prop| .aO,v=>v= .aO| .bl b,v=>v= .bl b| .int i,v=>v= .int i| .str x,v=>v= .str x/\x.length<=1000| .tup ds,v=>∃a vs,v= .ref a/\H a=some (.tup vs)/\bg H ds vs noncomputable def bg(H:Hp):List D->List V->Prop|[],vs=>vs=[]|d::ds,vs=>∃v r,vs=v::r/\Rep H d v/\bg H ds r end
mutual theorem Rep.mono{H H':Hp}(h:ay H H'):∀{d:D}{v:V},Rep H d v->Rep H' d v| .aO,_,r=>r| .bl _,_,r=>r| .int _,_,r=>r| .str _,_,r=>r| .tup _,_,⟨a,vs,e,q,r⟩=>⟨a,vs,e,h _ _ q,bg.mono h r⟩theorem bg.mono{H H':Hp}(h:ay H H'):∀{ds:List D}{vs:List V},bg H ds vs->bg H' ds vs|[],_,r=>r|_::_,_,⟨v,r,e,q,t⟩=>⟨v,r,e,Rep.mono h q,bg.mono h t⟩end
theorem bg.length{H:Hp}:∀{ds:List D}{vs:List V},bg H ds vs->vs.length=ds.length|[],_,r=>by have r:_=[]:=r;rw[r];rfl|_::_,_,⟨v,r,e,q,t⟩=>by rw[e,dY,dY,bg.length t]
theorem bg.get{H:Hp}:∀{ds:List D}{vs:List V}{i:Nat}{d:D},bg H ds vs->ds[i]?=some d->∃v,vs[i]?=some v/\Rep H d v|[],_,_,_,_,e=>by simp at e|d::_,_,0,_,⟨v,r,e,q,t⟩,h=>by simp at h;subst h;exact⟨v,by rw[e];rfl,q⟩|_::ds,_,i+1,d,⟨v,r,e,q,t⟩,h=>by obtain⟨u,h1,h2⟩:=bg.get (i:=i) t (by simpa using h);exact⟨u,by rw[e];simpa using h1,h2⟩
theorem bg.get'{H:Hp}{ds:List D}{vs:List V}{i:Nat}{v:V}(r:bg H ds vs)(e:vs[i]?=some v):∃d,ds[i]?=some d/\Rep H d v:=by have hi:i<vs.length:=(List.getElem?_eq_some_iff.mp e).1;rw[r.length]at hi;obtain⟨u,h1,h2⟩:=r.get (d:=ds[i]) (i:=i) (by simp[hi]);rw[e]at h1;cases h1;exact⟨ds[i],by simp[hi],h2⟩
theorem bg.append{H:Hp}:∀{ds es:List D}{vs us:List V},bg H ds vs->bg H es us->bg H (ds++es) (vs++us)|[],_,_,_,r,q=>by have r:_=[]:=r;subst r;exact q|_::_,_,_,_,⟨v,r,e,p,t⟩,q=>by subst e;exact⟨v,r++_,rfl,p,bg.append t q⟩
theorem bg.one{H:Hp}{d:D}{v:V}(r:Rep H d v):bg H [d] [v]:=⟨v,[],rfl,r,rfl⟩
theorem bg.snoc{H:Hp}{ds:List D}{vs:List V}{d:D}{v:V}(r:bg H ds vs)(q:Rep H d v):bg H (ds++[d]) (vs++[v]):=r.append (bg.one q)
noncomputable def tyD:D->String| .aO=>"NoneType"| .bl _=>"bool"| .int _=>"int"| .str _=>"str"| .tup _=>"tuple"
theorem Rep.ty{K:PySem.W.Frag}{H:Hp}:∀{d:D}{v:V},Rep H d v->kH K H v (.type (tyD d))| .aO,_,r=>by cases(show _=V.aO from r);exact .aO| .bl b,_,r=>by cases(show _=V.bl b from r);exact .bl b| .int i,_,r=>by cases(show _=V.int i from r);exact .int i| .str x,_,r=>by cases(show _=V.str x from r.1);exact .str x| .tup _,_,⟨a,vs,e,q,_⟩=>by cases e;exact .tup q
noncomputable def ar:D->Bool| .str _=>true|_=>false
noncomputable def L7:D->Bool| .bl _=>true|_=>false
noncomputable def NW:D->Bool| .bl _=>true| .int _=>true|_=>false
theorem zS(K:PySem.W.Frag)(d:D):PySem.W.kitOne K (.type (tyD d)) (.type "tuple")=some (isTup d):=by cases d<;>rfl
theorem Qs(K:PySem.W.Frag)(d:D):PySem.W.kitOne K (.type (tyD d)) (.type "str")=some (ar d):=by cases d<;>rfl
theorem Ee(K:PySem.W.Frag)(d:D):PySem.W.kitOne K (.type (tyD d)) (.type "bool")=some (L7 d):=by cases d<;>rfl
theorem O4(K:PySem.W.Frag)(d:D):PySem.W.kitOne K (.type (tyD d)) (.type "int")=some (NW d):=by cases d<;>rfl
theorem av{H:Hp}{p:Addr}(h:H p=none)(o:HO):ay H (upd H p o):=λb u q=>by rw[aI (aD q h)];exact q
end L3
end
section
namespace L3
open PySem PySem.Spec PyProof.Rows L2
theorem part_of{u:Value}{o:Option Int}(p:IsPart u o):∃q:Option (Int×Tok),u=partValue q/\q.map (·.1)=o:=by cases p with|none=>exact⟨none,rfl,rfl⟩|int i t=>exact⟨some (i,t),rfl,rfl⟩
noncomputable def abP(t u:TS):TS:=λD σ H=>∃M:L2.St->Hp->Prop,t {D with nx:=M} σ H/\∀a H',M a H'->u D a H'
theorem GS{X:Cx}{st:Stmt}{rest:List Stmt}{t u:TS}(h1:PS X st t)(h2:gR X rest u):gR X (st::rest) (abP t u):=by intro pins s σ H D I h;obtain⟨M,h,c⟩:=h;refine wpAny_execs_cons (bH (h1 pins s σ H {D with nx:=M} I h) λf s1 q=>?_);cases f with|next=>obtain⟨a,H',b,q⟩:=q;exact h2 pins s1 a H' D b (c a H' q)|ret v=>exact q|brk=>exact q|cont=>exact q
theorem iU{J:It}{g:TG}{tb:TS}{D:Ends}{σ:L2.St}{H:Hp}(n:Nat)(Pv:Nat->L2.St->Hp->Prop)(j:Pv 0 σ H)(k:∀i σ H,i<n->Pv i σ H->J.go i H/\∀x H',J.vB i H x H'->g x σ H' λc a=>tb {D with nx:=Pv (i+1),ct:=Pv (i+1),bk:=D.nx} c a)(hd:∀σ H,Pv n σ H->J.stop n H/\D.nx σ H):∃W:Nat->Nat->L2.St->Hp->Prop,(∃m,W 0 m σ H)/\∀i m σ H,W i m σ H->(J.stop i H/\D.nx σ H)\/(J.go i H/\∃N:L2.St->Hp->Prop,(∀b H',N b H'->∃e,e<m/\W (i+1) e b H')/\∀x H',J.vB i H x H'->g x σ H' λc a=>tb {D with nx:=N,ct:=N,bk:=D.nx} c a):=by
 refine⟨λi m σ H=>m=n-i/\i<=n/\Pv i σ H,⟨n,by simp,dA _,j⟩,?_⟩;rintro i m σ H⟨rfl,hi,p⟩;by_cases d:i<n;·obtain⟨f,h⟩:=k i σ H d p;exact .inr ⟨f,Pv (i+1),λb H' l=>⟨n-(i+1),by lia,rfl,d,l⟩,h⟩
 ·obtain rfl:i=n:=by lia
  exact .inl (hd σ H p)
def eR(p:Addr)(H H':Hp):Prop:=∀b o,b≠p->H b=some o->H' b=some o
theorem eR.upd{p:Addr}{H:Hp}(o:HO):eR p H (upd H p o):=λb u n h=>by rw[aI n];exact h
mutual theorem Rep.gX{p:Addr}{H H':Hp}(h:eR p H H')(hp:∀vs,H p≠some (.tup vs)):∀{d:KM.D}{v:V},Rep H d v->Rep H' d v| .aO,_,r=>r| .bl _,_,r=>r| .int _,_,r=>r| .str _,_,r=>r| .tup _,_,⟨a,vs,e,q,r⟩=>⟨a,vs,e,h _ _ (λz=>hp vs (by rw[<-z];exact q)) q,bg.gX h hp r⟩theorem bg.gX{p:Addr}{H H':Hp}(h:eR p H H')(hp:∀vs,H p≠some (.tup vs)):∀{ds:List KM.D}{vs:List V},bg H ds vs->bg H' ds vs|[],_,r=>r|_::_,_,⟨v,r,e,q,t⟩=>⟨v,r,e,Rep.gX h hp q,bg.gX h hp t⟩end
section
variable{prog:Program}{w:World}{A:Around}{E:Value->Shared->Prop}{s:Shared}{d:Addr}{o:Obj}{es:Array DictEntry}{ep:Nat}{hsh:Int}
end
section
variable{X:Cx}{pins:List (Addr×Obj)}{σ:L2.St}{H:Hp}{s:Shared}{a:Addr}{D:List (Str×V)}{A:Around}{E:Value->Shared->Prop}
end
end L3
end
section
namespace L3
open PySem L2
section
variable{prog:Program}{w:World}{A:Around}{E:Value->Shared->Prop}{s:Shared}
theorem WI{it t:Addr}{i:Nat}{its:Array Value}{x:Value}{Q:Value->Shared->Prop}(c:s.heap.IsListIter it t i)(gt:s.heap.IsList t its)(g:its[i]?=some x)(h:∀h',h'.IsListIter it t (i+1)->Heap.SameBut it s.heap h'->Q x {s with heap:=h'}):wpAny (model prog w) A (Builtin.SmallTypes.nextOf (.ref it)) Q E s:=by obtain⟨j,b,d,a⟩:=id c;obtain⟨k,f,_,nt,e⟩:=gt;unfold Builtin.SmallTypes.nextOf;refine ao (wpAny_callSpecial?_slot (name:=Str.ofString "__next__") c.typeIs slot_listiter_next (jO slot_listiter_next c.typeIs entry_listiter_next ?_ (args_listiter_next _)));show wpAny (model prog w) _ (field (.ref it) 0>>=_) _ _ s;refine ao (dC b a (x:= .ref t) rfl ?_);show wpAny (model prog w) _ (if(Value.ref t==Value.none)=true then _ else _) _ _ s;rw[if_neg (show¬(Value.ref t==Value.none)=true from eC)];show wpAny (model prog w) _ (field (.ref it) 1>>=_) _ _ s;refine ao (dC b a (x:= .int i 0) rfl ?_);show wpAny (model prog w) _ (seqItems? (.ref t)>>=_) _ _ s;refine ao (wpAny_seqItems f e ?_);simp only[Int.toNat_natCast,g];refine ao (wpAny_setField b a (by simp) (aU ⟨x,rfl,aU (h _ ?_ (Heap.SameBut.update ..))⟩));refine⟨_,Av _ b (Obj.isFreed_of_fields (Obj.data_mapFields a _)),(Obj.cls_mapFields ..).trans d,?_⟩;rw[Obj.data_mapFields a];simp[rawInt]
theorem D9{it t:Addr}{i:Nat}{its:Array Value}{Q:Value->Shared->Prop}(hb:HB s.heap A)(m:∀a,A.handled=some (.ref a)->a≠it)(d:s.heap.IsListIter it t i)(gt:s.heap.IsList t its)(h:its[i]?=none)(j:∀h' e,Heap.ExtBut it s.heap h'->(∃o,h'.get? e=some o/\o.cls= .type "StopIteration")->E (.ref e) {s with heap:=h'}):wpAny (model prog w) A (Builtin.SmallTypes.nextOf (.ref it)) Q E s:=by obtain⟨p,c,n,b⟩:=id d;obtain⟨q,g,_,nt,f⟩:=gt;unfold Builtin.SmallTypes.nextOf;refine ao (wpAny_callSpecial?_slot (name:=Str.ofString "__next__") d.typeIs slot_listiter_next (jO slot_listiter_next d.typeIs entry_listiter_next ?_ (args_listiter_next _)));show wpAny (model prog w) _ (field (.ref it) 0>>=_) _ _ s;refine ao (dC c b (x:= .ref t) rfl ?_);show wpAny (model prog w) _ (if(Value.ref t==Value.none)=true then _ else _) _ _ s;rw[if_neg (show¬(Value.ref t==Value.none)=true from eC)];show wpAny (model prog w) _ (field (.ref it) 1>>=_) _ _ s;refine ao (dC c b (x:= .int i 0) rfl ?_);show wpAny (model prog w) _ (seqItems? (.ref t)>>=_) _ _ s;refine ao (wpAny_seqItems g f ?_);simp only[Int.toNat_natCast,h];refine ao (wpAny_rule (ao (wpAny_setField c b (by simp) ?_)));exact eA (A:=A.in1) (hb.upd m) λh' e k l=>j h' e (mF k) l
end
theorem gK{prog:Program}{w:World}{A:Around}(it t:Addr)(ne:t≠it)(e:∀a,A.handled=some (.ref a)->a≠it)(its:Array Value):Draws prog w A it (it::t::k_ A) its.size (λi v=>its[i]?=some v) (λi h=>h.IsListIter it t i/\h.IsList t its/\HB h A)where
 live:=λ_ _ st=>let⟨o,n,_⟩:=st.1;⟨o,n⟩;frame:=λi h h' st c=>by obtain⟨⟨f,e1,q⟩,⟨g,e2,r⟩,hb⟩:=st;exact⟨⟨f,c it (by simp) f e1,q⟩,⟨g,c t (by simp) g e2,r⟩,hb.frame λb hb=>c b (by simp[hb])⟩
 item:=λi s Q E hi st m=>by refine WI st.1 st.2.1 (x:=its[i]) (by simp[hi]) λh' p d=>?_;exact m _ h' s.toks (by simp[hi]) ⟨p,st.2.1.extBut d.extBut ne,st.2.2.mono λa o j k=>d.extBut a o (e a j) k⟩ d
 done:=λs Q E st l=>D9 st.2.2 e st.1 st.2.1 (by simp) l
noncomputable abbrev zl1(h:Heap)(a:Addr):Heap:=h.push {cls:= .type "list_iterator",data:= .fields #[.ref a, .int 0 0]}
noncomputable abbrev zl2(h:Heap)(a b:Addr):Heap:=(zl1 h a).push {cls:= .type "list_iterator",data:= .fields #[.ref b, .int 0 0]}
noncomputable abbrev zl3(h:Heap)(a b:Addr):Heap:=(zl2 h a b).push {cls:= .type "tuple",data:= .seq #[.ref h.objs.size, .ref (zl1 h a).objs.size]}
noncomputable abbrev zl4(h:Heap)(a b:Addr):Heap:=(zl3 h a b).push {cls:= .type "tuple",data:= .seq #[.none, .none]}
noncomputable abbrev W7(h:Heap)(a b:Addr):Heap:=(zl4 h a b).push {cls:= .type "zip",data:= .fields #[.none, .bool false, .bool false, .ref (zl2 h a b).objs.size, .ref (zl3 h a b).objs.size]}
theorem Fh(a b:Addr)(xs ys:Array Value):Meets (Builtin.«zip.__new__» ⟨[.type "zip", .ref a, .ref b],[]⟩) (λ_ R s=>s.heap.IsList a xs/\s.heap.IsList b ys/\R (.ok (.ret (.ref (zl4 s.heap a b).objs.size))) {s with heap:=W7 s.heap a b}):= .of_wp λprog w A R s h=>by obtain⟨c,g,d,tk,os⟩:=s;obtain⟨e,f,h⟩:=h;have i:=sub_zip;have t1:Heap.IsList (Shared.heap ⟨c,g,d,tk,os⟩) a xs:=e;have t2:Heap.IsList (Shared.heap ⟨c.push {cls:= .type "list_iterator",data:= .fields #[.ref a, .int 0 0]},g,d,tk,os⟩) b ys:=Heap.IsList.push f _;wp_walk using wpAny_pyIter_list t1,wpAny_pyIter_list t2;exact⟨_,rfl,h⟩
section
variable{prog:Program}{w:World}{A:Around}{E:Value->Shared->Prop}{s:Shared}
theorem IP{a b:Addr}{xs ys:Array Value}{Q:Value->Shared->Prop}(i:s.heap.IsList a xs)(j:s.heap.IsList b ys)(h:∀h',IsZip h' (s.heap.objs.size+4) (s.heap.objs.size+2) (s.heap.objs.size+3) .none->IsPair h' (s.heap.objs.size+2) (.ref s.heap.objs.size) (.ref (s.heap.objs.size+1))->IsPair h' (s.heap.objs.size+3) .none .none->h'.IsListIter s.heap.objs.size a 0->h'.IsListIter (s.heap.objs.size+1) b 0->(∀c o,s.heap.get? c=some o->h'.get? c=some o)->Q (.ref (s.heap.objs.size+4)) {s with heap:=h'}):wpAny (model prog w) A (call (.type "zip") [.ref a, .ref b]) Q E s:=by
 refine callType_new F.called_zip (by decide) (F.typeCall_zip_2 _ _) (F.newCall_zip_2 _ _) (λobj=>F.args_object_init_3 obj _ _) F.entry_zip_new (Fh a b xs ys) ⟨i,j,?_⟩;have e1:(zl1 s.heap a).objs.size=s.heap.objs.size+1:=Heap.size_push ..;have e2:(zl2 s.heap a b).objs.size=s.heap.objs.size+2:=by rw[Heap.size_push,e1]
 have e3:(zl3 s.heap a b).objs.size=s.heap.objs.size+3:=by rw[Heap.size_push,e2]
 have e4:(zl4 s.heap a b).objs.size=s.heap.objs.size+4:=by rw[Heap.size_push,e3]
 have d:(W7 s.heap a b).get? (zl4 s.heap a b).objs.size=some _:=eI _ rfl;have g:(W7 s.heap a b).get? (zl3 s.heap a b).objs.size=some _:=bC _ (eI _ rfl);have f:(W7 s.heap a b).get? (zl2 s.heap a b).objs.size=some _:=bC _ (bC _ (eI _ rfl));have e:(W7 s.heap a b).get? (zl1 s.heap a).objs.size=some _:=bC _ (bC _ (bC _ (eI _ rfl)));have k:(W7 s.heap a b).get? s.heap.objs.size=some _:=bC _ (bC _ (bC _ (bC _ (eI _ rfl))));show _/\_;rw[e2,e3,e4]at d;rw[e1,e2]at f;rw[e3]at g;rw[e1]at e;rw[e4];refine⟨⟨_,d,rfl⟩,h _ d f g ⟨_,k,rfl,rfl⟩ ⟨_,e,rfl,rfl⟩ λc o q=>?_⟩;exact bC _ (bC _ (bC _ (bC _ (bC _ q))))
end
end L3
end
section
namespace L3
open PySem PySem.Spec PyProof.Rows L2
theorem nR{X:Cx}{pins:List (Addr×Obj)}{σ:L2.St}{H:Hp}{s:Shared}{a d:Addr}{xs:List V}(I:Inv X pins σ H s)(q:bI X.K H a xs)(f:lr X pins H d):a≠d:=λz=>by
 subst z;rcases q with(q|⟨o,q⟩)|⟨o,_,_,q,_⟩;·rw[f.1]at q;cases q
 ·rw[f.1]at q;cases q
 ·have e:=I.ok.mod.DD a o q;rcases f.2.2.2.1 with z|z;·exact I.ok.yw a o e z
  ·exact absurd (gb (bA e) I.ok.DB) (Nat.not_lt.mpr z)
noncomputable def aa3(K:PySem.W.Frag)(a b:Addr):It:=⟨λi H=>∃xs ys x y,bI K H a xs/\bI K H b ys/\xs[i]?=some x/\ys[i]?=some y,λi H v H'=>∃p x y,v= .ref p/\H p=none/\H'=upd H p (.tup [x,y])/\∀xs ys,bI K H a xs->bI K H b ys->xs[i]?=some x/\ys[i]?=some y,λi H=>∃xs ys,bI K H a xs/\bI K H b ys/\xs.length=i⟩
structure Zb(a b z TI TO i1 i2:Addr)(i:Nat)(h:Heap):Prop where
 z:IsZip h z TI TO .none
 TI:IsPair h TI (.ref i1) (.ref i2)
 TO:∃u v,IsPair h TO u v
 i1:h.IsListIter i1 a i
 i2:h.IsListIter i2 b i
theorem Ja{P:Program}{w:World}{K:PySem.W.Frag}{es:List Expr}{k:Nat}{pos:Pos}(a b n:Nat):Turn P w K (.Tuple es k pos) (aa3 K a b) [n+4,n+2,n+3,n,n+1] (n+4) (Zb a b (n+4) (n+2) (n+3) n (n+1))where
 mem:=by simp
 obj:=λi h st c hc=>by
  simp only[gF,jr,or_false]at hc;obtain⟨B,e1,_,d1⟩:=st.i1;obtain⟨N,e2,_,d2⟩:=st.i2;obtain⟨u,v,p⟩:=st.TO;rcases hc with rfl|rfl|rfl|rfl|rfl;·exact⟨_,st.z,λv q=>by cases q⟩
  ·exact⟨_,st.TI,λv q=>by cases q⟩
  ·exact⟨_,p,λv q=>by cases q⟩
  ·exact⟨B,e1,λv q=>by rw[d1]at q;cases q⟩
  ·exact⟨N,e2,λv q=>by rw[d2]at q;cases q⟩
 keep:=λi h h' st kp=>by obtain⟨B,e1,r1⟩:=st.i1;obtain⟨N,e2,r2⟩:=st.i2;obtain⟨u,v,p⟩:=st.TO;exact⟨kp _ (by simp) _ st.z,kp _ (by simp) _ st.TI,⟨u,v,kp _ (by simp) _ p⟩,⟨B,kp _ (by simp) _ e1,r1⟩,⟨N,kp _ (by simp) _ e2,r2⟩⟩
 item:=by
  intro X G hw F hc i pins s σ H E I f st J;subst G hw F;obtain⟨xs,ys,x,y,t,C,Y,Z⟩:=J;obtain⟨r,R,O,_⟩:=I.list t;obtain⟨L,rv2,p2,_⟩:=I.list C;obtain⟨S,V,OQ⟩:=R.get Y;obtain⟨U,W,ru2⟩:=rv2.get Z;obtain⟨u,v,p⟩:=st.TO;have ltz:=bA st.z;have l1:i<r.toArray.size:=by rw[cE];exact(List.getElem?_eq_some_iff.mp V).1
  have l2:i<L.toArray.size:=by rw[cE];exact(List.getElem?_eq_some_iff.mp W).1
  have j:∀d∈[n+4,n+2,n+3,n,n+1],a≠d:=λd hd=>nR I t (f d hd);have m:∀d∈[n+4,n+2,n+3,n,n+1],b≠d:=λd hd=>nR I C (f d hd);have l:nW (n+4) (n+2) (n+3) n (n+1) (n::a::k_ X.A.in1) ((n+1)::b::k_ X.A.in1):=by have M:∀d∈[n+4,n+2,n+3,n,n+1],d∉k_ X.A.in1:=λd hd z=>I.MO hc (f d hd).2.2.2.1 (f d hd).2.2.2.2.2 d (mi z) rfl;have a1:=j (n+4) (by simp);have a2:=j (n+3) (by simp);have a3:=j (n+1) (by simp);have b1:=m (n+4) (by simp);have b2:=m (n+3) (by simp);have b3:=m n (by simp);constructor<;>(try simp only[gF,not_or])<;>first|lia|exact⟨by lia,by lia,M _ (by simp)⟩
  have D:∀d∈[n+4,n+2,n+3,n,n+1],∀a,X.A.in1.handled=some (.ref a)->a≠d:=λd hd=>I.MO hc (f d hd).2.2.2.1 (f d hd).2.2.2.2.2;refine IE (gK n a (j n (by simp)) (D n (by simp)) r.toArray) (gK (n+1) b (m (n+1) (by simp)) (D (n+1) (by simp)) L.toArray) l st.z st.TI p ⟨st.i1,O.isList,I.hb hc⟩ ⟨st.i2,p2.isList,I.hb hc⟩ l1 l2 λx' y' h1 tk e1 e2 z1 B s1 s2 pr kp=>?_;have e1:r.toArray[i]?=some x':=e1;have e2:L.toArray[i]?=some y':=e2;have ex:S=x':=by rw[List.getElem?_toArray,V]at e1;exact Option.some.inj e1
  have ey:U=y':=by rw[List.getElem?_toArray,W]at e2;exact Option.some.inj e2
  subst ex ey;refine⟨_,rfl,wpAny_letOwnedTupleGo_zip (s:={s with heap:=h1,toks:=tk}) z1 λh2 z2 sb=>?_⟩;have lt:∀d∈[n+4,n+2,n+3,n,n+1],d<s.heap.objs.size:=λd hd=>by
   have :d<=n+4:=by simp at hd;lia
   exact Nat.lt_of_le_of_lt this ltz
  have up:∀c o,c≠n+4->h1.get? c=some o->h2.get? c=some o:=λc o g e=>(sb.2 c g).trans e;have prT:h2.get? s.heap.objs.size=some {cls:= .type "tuple",data:= .seq #[S,U]}:=up _ _ (Nat.ne_of_gt ltz) pr;refine⟨.ref s.heap.objs.size,_,wz (s:=s) (h':=h2) (t':=tk) (ch:=[n+4,n+3,n,n+1]) (T:=s.heap.objs.size) (o:= .tup [x,y]) I (λc o g e=>?_) (λd hd=>f d (by simp only[gF,jr,or_false]at hd⊢;rcases hd with z|z|z|z<;>simp[z])) (bf _) ?_,rfl,⟨_,x,y,rfl,I.bK.fresh (bf _),rfl,λxs' ys' a1 a2=>?_⟩,?_,λd hd=>?_⟩;·simp only[gF,jr,or_false,not_or]at g;exact up c o g.1 (kp c o g.1 g.2.1 g.2.2.1 g.2.2.2 e)
  ·exact⟨(gZ rfl),[S,U], .cons OQ (.cons ru2 .nil),⟨_,prT,rfl,_,rfl⟩⟩
  ·rw[I.i8 a1 t,I.i8 a2 C];exact⟨Y,Z⟩
  ·obtain⟨⟨oa,ea,ra⟩,_⟩:=s1;obtain⟨⟨ob,eb,rb⟩,_⟩:=s2;refine⟨z2,up _ _ l.TIz (kp _ _ l.TIz l.TITO l.TI1 l.TI2 st.TI),⟨_,_,up _ _ (by lia) B⟩,⟨oa,up _ _ (by lia) ea,ra⟩,⟨ob,up _ _ (by lia) eb,rb⟩⟩
  ·rw[aI (cW (lt d hd))];exact(f d hd).1
 done:=by
  intro X G hw F hc i pins s σ H E I f st J;subst G hw F;obtain⟨xs,ys,t,C,hl⟩:=J;obtain⟨r,R,O,_⟩:=I.list t;obtain⟨u,v,p⟩:=st.TO;have j:∀d∈[n+4,n+2,n+3,n,n+1],a≠d:=λd hd=>nR I t (f d hd);have m:∀d∈[n+4,n+2,n+3,n,n+1],b≠d:=λd hd=>nR I C (f d hd);have l:nW (n+4) (n+2) (n+3) n (n+1) (n::a::k_ X.A.in1) ((n+1)::b::k_ X.A.in1):=by have M:∀d∈[n+4,n+2,n+3,n,n+1],d∉k_ X.A.in1:=λd hd z=>I.MO hc (f d hd).2.2.2.1 (f d hd).2.2.2.2.2 d (mi z) rfl;have a1:=j (n+4) (by simp);have a2:=j (n+3) (by simp);have a3:=j (n+1) (by simp);have b1:=m (n+4) (by simp);have b2:=m (n+3) (by simp);have b3:=m n (by simp);constructor<;>(try simp only[gF,not_or])<;>first|lia|exact⟨by lia,by lia,M _ (by simp)⟩
  have hi:r.toArray.size=i:=by rw[cE,<-R.length];exact hl
  subst hi;have D:∀d∈[n+4,n+2,n+3,n,n+1],∀a,X.A.in1.handled=some (.ref a)->a≠d:=λd hd=>I.MO hc (f d hd).2.2.2.1 (f d hd).2.2.2.2.2;refine Jy (gK n a (j n (by simp)) (D n (by simp)) r.toArray) l st.z st.TI p ⟨st.i1,O.isList,I.hb hc⟩ λh1 kp=>⟨rfl,?_⟩;refine Gz (t':=s.toks) (ch:=[n+4,n+3,n,n+1]) I (λc o g e=>?_) λd hd=>f d (by simp only[gF,jr,or_false]at hd⊢;rcases hd with z|z|z|z<;>simp[z]);simp only[gF,jr,or_false,not_or]at g;exact kp c o g.1 g.2.1 g.2.2.1 g.2.2.2 e
 self:=λA i s Q E st h=>wpAny_pyIter_zip st.z h
noncomputable def Ym(K:PySem.W.Frag)(d:TA):TI:=λσ H R=>d σ H λvs c=>∃a b xs ys,vs=[.ref a, .ref b]/\bI K c a xs/\bI K c b ys/\R (aa3 K a b) c
theorem Rm{X:Cx}{es:List Expr}{k:Nat}{F:Pos}{a b:Expr}{j:TA}{p i:Pos}(o:Gl X "zip")(hm:X.mg "zip"=none)(ha:PA X [a,b] j)(r:starEach [a,b] X.env=[(false,eval a X.env),(false,eval b X.env)]:=by rfl)(g:starEach [b] X.env=[(false,eval b X.env)]:=by rfl):PI X (.Tuple es k F) (.Call (.Name "zip" p) [a,b] [] i) (Ym X.K j):=by
 intro pins s σ H R I h;refine Call_ (iR I o hm boot_zip (PyProof.Rows.callWith_type1 (bH (ha i pins s σ H _ I h) λus s1⟨vs,f,c,A,y⟩=>?_) (by rw[r,g]) (by rw[g];rfl)));obtain⟨a1,n,xs,ys,e,t,u,q⟩:=y;subst e;obtain⟨M,N,rfl,B,C⟩:=Vals.two A;cases B;cases C;obtain⟨G,K,w,_⟩:=c.list t;obtain⟨J,L,x,_⟩:=c.list u;refine IP w.isList x.isList λh1 l t1 v D E kp=>?_;refine wpAny_pyIter_zip (s:={s1 with heap:=h1}) l ?_;have m:Inv X pins σ f {s1 with heap:=h1}:=c.kept (t':=s1.toks) kp;refine⟨_,_,_,_,f,rfl,m,Ja a1 n s1.heap.objs.size,⟨l,t1,⟨_,_,v⟩,D,E⟩,λd hd=>?_,q⟩;have :s1.heap.objs.size<=d:=by simp only[gF,jr,or_false]at hd;rcases hd with z|z|z|z|z<;>rw[z]<;>first|exact Nat.le_add_right _ _|exact bf _
 exact c.EV this (c.bK.fresh this)
theorem i4:bootBuiltins "tuple"=some (.type "tuple"):=by decide+kernel
theorem Ao:bootBuiltins "int"=some (.type "int"):=by decide+kernel
theorem yY:bootBuiltins "bool"=some (.type "bool"):=by decide+kernel
theorem K8:bootBuiltins "str"=some (.type "str"):=by decide+kernel
theorem Qv:bootBuiltins "list"=some (.type "list"):=by decide+kernel
theorem bU:bootBuiltins "len"=some (.builtin "len"):=by decide+kernel
theorem bX:bootBuiltins "isinstance"=some (.builtin "isinstance"):=by decide+kernel
theorem Lm:bootBuiltins "all"=some (.builtin "all"):=by decide+kernel
theorem LZ:bootBuiltins "max"=some (.builtin "max"):=by decide+kernel
def Df(K:PySem.W.Frag)(mg:Str->Option Value)(x:Str)(st:Stmt)(ps:List Str):Prop:=∃f fd,Om K x x st f fd/\mg x=some (.ref f)/\Binds K fd ps []
noncomputable def bO(P:Program)(w:World)(K:PySem.W.Frag)(mg:Str->Option Value)(CX:kL)(x:Str)(k:Nat)(ps:List Str)(sp:Sp):Prop:=∃f fd,(∀base,nA P w K mg base CX k f fd ps sp)/\mg x=some (.ref f)/\PySem.W.keepIn K (.ref f)=true/\Binds K fd ps []
section
variable{P:Program}{w:World}{K:PySem.W.Frag}{mg:Str->Option Value}
theorem Df.ok{x:Str}{st:Stmt}{N ps:List Str}{k:Nat}{sp:Sp}(D:Df K mg x st ps)(S:aC N ps (ai st))(len:∀vs H Q E,sp vs H Q E->vs.length=ps.length)(a:∀(base:Heap)(f:Addr)(bS:Value)(A:Around)(outer:List Env)(s:Shared)(H:Hp)(vs:List V)(Q:VK)(E:XK),bY k (A.deeper (envOfC x (ai st) s.heap.objs.size f bS))->sp vs H Q E->∃t,gR (dw b_ P w K mg base N x (ai st) f bS A outer s H E).Gw (bu st) t/\t {nx:=λ_ H'=>Q .aO H',rt:=Q} (start N vs) H):bO P w K mg b_ x (k+1) ps sp:=by obtain⟨f,fd,F,m,b⟩:=D;exact⟨f,fd,λbase=>F.ok S len (a base f),m,F.kp,b⟩
theorem bO.never{x:Str}{st:Stmt}{ps:List Str}{sp:Sp}{k:Nat}{CX:kL}(D:Df K mg x st ps)(no:∀vs H Q E,¬sp vs H Q E):bO P w K mg CX x k ps sp:=by obtain⟨f,fd,F,m,b⟩:=D;exact⟨f,fd,λbase=>⟨λvs H Q E h=>absurd h (no vs H Q E),λA outer s H args us vs Q E _ _ _ _ h=>absurd h (no vs H Q E)⟩,m,F.kp,b⟩
end
noncomputable def uk(h:Heap)(H:Hp)(fs:List Addr):Heap:=PySem.W.hideAll (yH h H) fs
theorem iO{h:Heap}{H:Hp}{fs:List Addr}{b:Addr}{o:Obj}(e:h.get? b=some o)(n:H b=none)(a:b∉fs):(uk h H fs).get? b=some o:=PySem.W.hideAll_get _ (mQ e n) a
theorem Qd{h:Heap}{H:Hp}{fs:List Addr}{b:Addr}{o:Obj}(e:(uk h H fs).get? b=some o):h.get? b=some o/\H b=none:=GV (PySem.W.of_hideAll fs e)
theorem IB(h:Heap)(H:Hp)(fs:List Addr):(uk h H fs).objs.size=h.objs.size:=(PySem.W.hideAll_size _ _).trans (wJ h H)
theorem lI{h B c:Heap}:∀{l:List Env},h.FunFrames B l->(∀L∈jq l,c.get? L=none)->h.FunFrames c l|[],_,_=>trivial|env::l,⟨d,⟨L,o,a,_,e,hd⟩,f⟩,hn=>⟨d,⟨L,o,a,hn L (by unfold jq;rw[List.filterMap_cons,a];exact cj),e,hd⟩,lI f λb hb=>hn b (by unfold jq at hb⊢;rw[List.filterMap_cons,a];exact cF _ hb)⟩
theorem Ez{X:Cx}{pins:List (Addr×Obj)}{σ:L2.St}{H:Hp}{s:Shared}(I:Inv X pins σ H s)(hc:X.calm=true):vm X.prog X.w X.K X.mg (uk s.heap H (jq X.stack)) X.A X.stack s H:=by
 have g:∀b o,X.base.get? b=some o->b∉jq X.stack:=λb o e z=>by
  rcases List.mem_cons.mp (I.fP b z)with z|z;·have :=bA e;rw[z]at this;exact absurd this (Nat.not_lt.mpr (cq I.ok.DB I.ok.above))
  ·exact I.ok.Uk e z
 have up:∀b o,X.base.get? b=some o->(uk s.heap H (jq X.stack)).get? b=some o:=λb o e=>iO (I.bs b o e).1 (I.bs b o e).2 (g b o e);obtain⟨mb,c,d⟩:=I.ok.mod.blt;refine⟨I.ok.frames,⟨I.ok.mod.DD.keeps up,I.ok.mod.glob.keeps up,⟨mb,c.keeps up,d⟩,I.ok.mod.nolimit.keeps up,I.ok.mod.bm.keeps up⟩,λb o e=>Qd e,Nat.le_of_eq (IB _ _ _),lI I.stack λL f=>PySem.W.hideAll_none _ f,I.xG,I.bK,I.bare,?_⟩;rcases I.ok.hd hc with h|⟨a,oe,vs,e1,e2,e3⟩;·exact .inl h
 ·refine .inr ⟨a,oe,vs,e1,?_,e3⟩;rcases e2 with e2|e2;·exact up a oe e2
  ·obtain⟨i,j,k,l,_⟩:=I.pin (a,oe) (A1 _ e2);refine iO i j λz=>?_;rcases List.mem_cons.mp (I.fP a z)with z|z;·exact k z
   ·exact l z
theorem rM{X:Cx}{CX:kL}{k:Nat}{f:Addr}{fd:FuncData}{ps:List Str}{sp:Sp}{E:XK}{pins:List (Addr×Obj)}{σ:L2.St}{H:Hp}{s:Shared}{Q:VK}{us:List Value}{vs:List V}{a:Value->Shared->Prop}(F:∀base,nA X.prog X.w X.K X.mg base CX k f fd ps sp)(c:bY k X.A)(hb:Binds X.K fd ps [])(I:Inv X pins σ H s)(hc:X.calm=true)(d:∀e s',CX X.A.handled X.stack H s E e s'->a e s')(r:Vals vs us)(h:sp vs H Q E):wpAny (model X.prog X.w) X.A (call (.ref f) us) (EP X pins σ Q) a s:=by
 have hl:us.length=ps.length:=by rw[<-r.length];exact(F (uk s.heap H (jq X.stack))).len _ _ _ _ h
 have b:=hb s us I.gL (by rw[gc];exact hl);rw[gc]at b;refine wpAny_call (codeAny_mono ((F _).run X.A X.stack s H ⟨us,[]⟩ us vs Q E c (Ez I hc) b r h) λr s' hq=>?_);cases r with|error e=>exact d e s' hq|ok fl=>cases fl with|ret u=>exact I.after hq|next=>exact False.elim hq|brk=>exact False.elim hq|cont=>exact False.elim hq
theorem aV{X:Cx}{CX:kL}{x:Str}{k:Nat}{ps:List Str}{sp:Sp}{E:XK}{e:Expr}{es:List Expr}{t:TA}{p c:Pos}(F:bO X.prog X.w X.K X.mg CX x k ps sp)(n:bY k X.A)(j:Gl X x)(o:Passes CX X E)(ha:PA X (e::es) t)(g:(x==("__debug__":Str))=false:=by decide)(i:starEach (e::es) X.env=(false,eval e X.env)::starEach es X.env:=by rfl)(l:(backTo c (starEach es X.env)).any (·.1)=false:=by rfl)(hc:X.calm=true:=by rfl):PE X (.Call (.Name x p) (e::es) [] c) (GD sp [] E t):=by obtain⟨f,fd,F,m,kp,b⟩:=F;intro pins s σ H Q I h;refine pM (fb I j m ?_ g);refine PySem.W.callWith_K (h₀:=X.base) I.ok.mod.DD kp (bH (ha c pins s σ H _ I h) λus s1⟨vs,d,a,r,q⟩=>⟨a.gL,?_⟩) i l;have q:sp (vs++[]) d Q E:=q;rw[gc]at q;exact rM F n b a hc (λe s' hc=>o pins σ d s1 e s' a hc) r q
theorem my{X:Cx}{x:Str}{i:Int}{b:Pos}(hm:∃t,X.mg x=some (.int i t))(a:Gl X x)(hd:(x==("__debug__":Str))=false:=by decide):PE X (.Name x b) (tC (.int i)):=by obtain⟨t,hm⟩:=hm;exact zx a hm ⟨t,rfl⟩ hd
theorem G0{X:Cx}{x:Str}{z:Str}{b:Pos}(hm:∃t,X.mg x=some (.str z t))(a:Gl X x)(hd:(x==("__debug__":Str))=false:=by decide):PE X (.Name x b) (tC (.str z)):=by obtain⟨t,hm⟩:=hm;exact zx a hm ⟨t,rfl⟩ hd
theorem e_{X:Cx}{x:Str}{a:Addr}{c:Pos}(hm:X.mg x=some (.ref a))(b:Gl X x)(hd:(x==("__debug__":Str))=false:=by decide):PE X (.Name x c) (tC (.ref a)):=zx b hm rfl hd
theorem oF{X:Cx}{x:Str}{n:String}{c:Pos}(hm:X.mg x=none)(b:bootBuiltins x=some (.type n))(a:Gl X x)(hn:x≠"__name__":=by decide)(hd:(x==("__debug__":Str))=false:=by decide):PE X (.Name x c) (tC (.ty n)):=P4 a hm b rfl hn hd
noncomputable def K9(outer:List (Str×NameKind))(N N':List Str)(own:Nat)(fr:List Nat)(scope:Scope):Bool:=scope.names.all (λy=>y.2 != .cell&&(y.2 != .local||scope.names.lookup y.1==some .local)&&(y.2 != .free||outer.lookup y.1==some .cell||outer.lookup y.1==some .free))&&decide (N'.length=own+fr.length)&&(List.range fr.length).all (λj=>match fr[j]? with
 |some i=>match N'[own+j]? with|some x=>N[i]?==some x&&scope.names.lookup x==some .free|none=>false
 |none=>true)
theorem iN{X:Cx}{N N':List Str}{own:Nat}{fr:List Nat}{sc scope:Scope}(g:X.env.scope=sc)(c:X.N=N)(f:scope.kind= .function)(h:K9 sc.names N N' own fr scope=true):l0 X N' own fr scope:=by
 unfold K9 at h;simp only[bD,List.all_eq_true,decide_eq_true_eq]at h;obtain⟨⟨h1,h2⟩,h3⟩:=h;subst c;refine⟨f,λy a=>?_,λy a e=>?_,λy a e=>?_,h2,λj i e=>?_⟩;·simpa using(h1 y a).1.1
 ·have :=(h1 y a).1.2;simpa[e]using this
 ·have :=(h1 y a).2;unfold Env.kindOf;rw[g];simpa[e]using this
 ·have d:j<fr.length:=(List.getElem?_eq_some_iff.mp e).1;have :=h3 j (by simpa using d);rw[e]at this;cases b:N'[own+j]? with|none=>simp[b]at this|some x=>simp only[b,bD,beq_iff_eq]at this;exact⟨x,rfl,this.1,this.2⟩
theorem Jg(a v:Value):argsOk "max" ⟨[a],[(Str.ofString "default",v)]⟩:=by unfold argsOk;kernel_rfl
section
variable{prog:Program}{w:World}{A:Around}{E:Value->Shared->Prop}{s:Shared}
theorem Bj{id:String}{b:Builtin}{args:List Value}{a:List (Str×Value)}{Q:Value->Shared->Prop}(g:builtinKind id=none)(h:plainId id=true)(hb:entryFor table id=some b)(ha:argsOk id ⟨args,a⟩)(hc:wpAny (model prog w) A.in1 (b ⟨args,a⟩) (λfin s'=>match fin with| .done f=>(match(Except.ok f:Result)with| .ok (.ret v)=>Q v s'| .ok _=>False| .error e=>E e s')| .again c=>c.quiet=true/\codeAny (model prog w) A c (λr s'=>match r with| .ok (.ret v)=>Q v s'| .ok _=>False| .error e=>E e s') s') E s):wpAny (model prog w) A (call (.builtin id) args a) Q E s:=by refine wpAny_call (codeAny_call_builtin h hb ?_);simp only[checkBuiltinCall,g];cases i:Manifest.signature? id with|none=>exact aU hc|some d=>simp only[argsOk,i]at ha;have h2:Bind.checkArgs id d ⟨args,a⟩=pure ():=ha;show wpAny _ A.in1 (Bind.checkArgs id d ⟨args,a⟩) _ _ s;rw[h2];exact aU hc
theorem P5{i j:Int}{t u:Tok}{Q:Value->Shared->Prop}(h:Q (.bool (decide (i>j))) s):wpAny (model prog w) A (richCompare .Gt (.int i t) (.int j u)) Q E s:=richCompare_gives (op:= .Gt) (typeIs_int s _ t) (typeIs_int s _ u) F.slot_int_gt F.entry_int_gt (F.args_int_gt_2 _ _) (gives_int_gt _ _ t u) (λx=>nomatch x) h
end
noncomputable def Ul(m x:Int):Int:=if x>m then x else m
noncomputable def maxD(ns:List Int)(d:Int):Int:=match ns with|[]=>d|a::r=>r.foldl Ul a
def U8(ns:List Int)(j:Nat)(l:Array Value):Prop:=(j=0/\l=#[])\/(0<j/\∃t,l=#[.int (maxD (ns.take j) 0) t, .int (maxD (ns.take j) 0) t])
theorem Iz{l:List Int}(x d:Int)(h:l≠[]):maxD (l++[x]) d=Ul (maxD l d) x:=by cases l with|nil=>exact absurd rfl h|cons a r=>simp[maxD,List.foldl_append]
section
variable{prog:Program}{w:World}{A:Around}{R:Result->Shared->Prop}{I:Addr}{fp wr:List Addr}{P:Nat->Value->Prop}{St:Nat->Heap->Prop}
theorem ID{ns:List Int}{d:Value}(W:Walks prog w A.in1 I fp wr ns.length P St)(V:∀(i:Nat)v,P i v->∃x t,ns[i]?=some x/\v= .int x t)(S:Addr)(N:S∉fp):∀(k j:Nat)(s:Shared)(l:Array Value)(c:Nat),ns.length-j=k->j<=ns.length->St j s.heap->U8 ns j l->s.heap.get? S=some {cls:= .type "list",dict:=none,data:= .seq l c,slots:=#[]}->(∀v h' tk,(ns=[]/\v=d\/ns≠[]/\∃t,v= .int (maxD ns 0) t)->(∀b o,b∉wr->b≠S->s.heap.get? b=some o->h'.get? b=some o)->R (.ok (.ret v)) {s with heap:=h',toks:=tk})->codeAny (model prog w) A (.builtin "max.loop" ⟨[.ref I, .none, .ref S],[(Str.ofString "default",d)]⟩) R s:=by
 have O:S∉wr:=λh=>N (W.sub _ h);have T:(toString "max"++toString ".loop":String)="max.loop":=by decide
 intro k;induction k with
  |zero=>
   intro j s l c Z Y D hb p n;have y:j=ns.length:=by lia
   refine codeAny_builtin F.entry_max_loop ?_;rw[Around.under_plainId F.plain_max_loop _];show wpAny _ A.in1 (seqItems? (.ref S)>>=_) _ _ s;refine ao (wpAny_seqItems p rfl ?_);rcases hb with⟨K,rfl⟩|⟨K,t,rfl⟩;·show wpAny _ A.in1 (tryCatch (pyNext (.ref I)) _>>=_) _ _ s;refine ao (wpAny_tryCatch (W.done s _ _ (y▸D) λh' tk f=>?_));show wpAny _ A.in1 (rule _>>=_) _ _ _;refine ao (wpAny_rule (aU ?_));have e:ns=[]:=List.eq_nil_of_length_eq_zero (by lia);exact n d _ tk (.inl ⟨e,rfl⟩) λb o a g q=>f b o a q
   ·show wpAny _ A.in1 (tryCatch (pyNext (.ref I)) _>>=_) _ _ s;refine ao (wpAny_tryCatch (W.done s _ _ (y▸D) λh' tk f=>?_));have m:=f S _ O p;show wpAny _ A.in1 (updateSeq S (λ_=>#[])>>=_) _ _ _;refine ao ?_;refine wpAny_updateSeq m rfl (ao (wpAny_letGo (aU ?_)));have e:ns≠[]:=λz=>by rw[z]at y;simp at y;lia
    refine n _ _ tk (.inr ⟨e,t,by rw[y,List.take_length]⟩) λb o a g q=>(jJ _ _ (Ne.symm g)).trans (f b o a q)
  |succ k U=>
   intro j s l c Z Y D hb p n;have C:j<ns.length:=by lia
   refine codeAny_builtin F.entry_max_loop ?_;rw[Around.under_plainId F.plain_max_loop _];show wpAny _ A.in1 (seqItems? (.ref S)>>=_) _ _ s;refine ao (wpAny_seqItems p rfl ?_);have X:∀x,ns[j]?=some x->ns.take (j+1)=ns.take j++[x]:=λx G=>by rw[List.take_add_one,G];rfl
   rcases hb with⟨K,rfl⟩|⟨K,t,rfl⟩
   ·show wpAny _ A.in1 (tryCatch (pyNext (.ref I)) _>>=_) _ _ s;refine ao (wpAny_tryCatch (W.item j s _ _ C D λv h' tk M L f=>?_));obtain⟨x,u,G,rfl⟩:=V j v M;have m:=f S _ O p;show wpAny _ A.in1 (updateSeq S (λ_=>#[.int x u, .int x u])>>=_) _ _ _;refine ao ?_;refine wpAny_updateSeq m rfl ?_;rw[T];refine aU ⟨plainId_quiet F.plain_max_loop _,U (j+1) _ _ _ (by lia) C (W.frame _ _ _ L λb Q o e=>?_) (.inr ⟨by lia,u,?_⟩) (Av _ m rfl) λJ r H E B=>?_⟩;·exact(jJ _ _ (λh:S=b=>N (by rw[h];exact Q))).trans e
    ·rw[X x G,K];rfl
    ·exact n J r H E λb o a g e=>B b o a g ((jJ _ _ (Ne.symm g)).trans (f b o a e))
   ·show wpAny _ A.in1 (tryCatch (pyNext (.ref I)) _>>=_) _ _ s;refine ao (wpAny_tryCatch (W.item j s _ _ C D λv h' tk M L f=>?_));obtain⟨x,u,G,rfl⟩:=V j v M;have m:=f S _ O p;have ne:ns.take j≠[]:=λz=>by
     have :(ns.take j).length=0:=by rw[z];rfl
     rw[List.length_take]at this;lia
    have em:maxD (ns.take (j+1)) 0=Ul (maxD (ns.take j) 0) x:=by rw[X x G,Iz x 0 ne]
    show wpAny _ A.in1 (tryCatch (holding [.int x u, .int x u] (richCompare .Gt (.int x u) (.int (maxD (ns.take j) 0) t)>>=_)) _>>=_) _ _ _;refine ao (wpAny_tryCatch (iJ (ao (P5 ?_))));refine ao (iJ (uH ?_));refine ao (wpAny_letGo (aU ?_));by_cases hb:x>maxD (ns.take j) 0
    ·rw[decide_eq_true hb];simp only[if_true];refine ao ?_;refine wpAny_updateSeq m rfl (ao (wpAny_letGo ?_));rw[T];refine aU ⟨plainId_quiet F.plain_max_loop _,U (j+1) _ _ _ (by lia) C (W.frame _ _ _ L λb Q o e=>?_) (.inr ⟨by lia,u,?_⟩) (Av _ m rfl) λJ r H E B=>?_⟩;·exact(jJ _ _ (λh:S=b=>N (by rw[h];exact Q))).trans e
     ·rw[em,Ul,if_pos hb]
     ·exact n J r H E λb o a g e=>B b o a g ((jJ _ _ (Ne.symm g)).trans (f b o a e))
    ·rw[decide_eq_false hb];simp only[Bool.false_eq_true,if_false];refine ao (wpAny_letGo ?_);rw[T];refine aU ⟨plainId_quiet F.plain_max_loop _,U (j+1) _ _ c (by lia) C L (.inr ⟨by lia,t,?_⟩) m λJ r H E B=>?_⟩;·rw[em,Ul,if_neg hb]
     ·exact n J r H E λb o a g e=>B b o a g (f b o a e)
end
theorem ints_get:∀{ns:List Int}{us:List Value},Vals (ns.map V.int) us->∀(i:Nat)(u:Value),us[i]?=some u->∃x t,ns[i]?=some x/\u= .int x t|[],_, .nil,i,u,e=>by simp at e|n::ns,_, .cons r t,0,u,e=>by obtain⟨tk,r⟩:=r;simp at e;exact⟨n,tk,rfl,by rw[<-e,r]⟩|n::ns,_, .cons r t,i+1,u,e=>by simpa using ints_get t i u (by simpa using e)
section
variable{X:Cx}{pins:List (Addr×Obj)}{σ:L2.St}{H:Hp}{s:Shared}
theorem Kz{p:Addr}{ns:List Int}{i:Int}{v:Value}{Q:VK}(hc:X.calm=true)(I:Inv X pins σ H s)(hq:bI X.K H p (ns.map V.int))(C:RelV (.int i) v)(q:Q (.int (maxD ns i)) H):wpAny (model X.prog X.w) X.A (call (.builtin "max") [.ref p] [(Str.ofString "default",v)]) (EP X pins σ Q) X.xe s:=by
 obtain⟨its,r,pl,D⟩:=I.list hq;have hl:=pl.isList;have lt:p<s.heap.objs.size:=by obtain⟨o,e,_⟩:=hl;exact bA e
 have B:∀a,X.A.in1.handled=some (.ref a)->a≠s.heap.objs.size:=λa c=>by
  rcases I.hb hc with z|⟨b,oe,vs,e1,e2,_⟩;·rw[show X.A.in1.handled=X.A.handled from rfl,z]at c;cases c
  ·rw[show X.A.in1.handled=X.A.handled from rfl,e1]at c;cases c;exact cW (bA e2)
 have n:(toString "max"++toString ".loop":String)="max.loop":=by decide
 refine Bj F.kind_max F.plain_max F.entry_max (Jg _ _) ?_;show wpAny _ X.A.in1 (Builtin.Builtins.bindParams "max" ["key","default"] 0 ⟨[],[(Str.ofString "default",v)]⟩>>=_) _ _ s;refine ao (wpAny_of_eq (show Builtin.Builtins.bindParams "max" ["key","default"] 0 ⟨[],[(Str.ofString "default",v)]⟩=pure [none,some v]from rfl) ?_);refine ao (aU ?_);refine ao (wpAny_pyIter_list hl ?_);refine ao (wpAny_newObj_type ?_);have len:its.toArray.size=ns.length:=by rw[cE,<-r.length,cy]
 have h:=uL (prog:=X.prog) (w:=X.w) (A:=X.A.in1) s.heap.objs.size p (cW lt) its.toArray B;rw[len]at h;rw[n];have l:((s.heap.push {cls:= .type "list_iterator",data:= .fields #[.ref p, .int 0 0]}).objs.size)∉s.heap.objs.size::p::k_ X.A.in1:=by
  rw[Heap.size_push];intro z;rcases List.mem_cons.mp z with z|z;·exact Nat.succ_ne_self _ z
  ·rcases List.mem_cons.mp z with z|z;·rw[<-z]at lt;exact Nat.not_succ_lt_self lt
   ·have g:=mi z;rcases I.hb hc with q|⟨b,oe,vs,e1,e2,_⟩;·rw[show X.A.in1.handled=X.A.handled from rfl,q]at g;cases g
    ·rw[show X.A.in1.handled=X.A.handled from rfl,e1]at g;cases g;exact Nat.not_succ_lt_self (bA e2)
 refine aU ⟨plainId_quiet F.plain_max_loop _,ID (d:=v) h (λj u e=>ints_get r j u (by simpa using e)) _ l _ 0 _ #[] _ rfl (dA _) ?_ (.inl ⟨rfl,rfl⟩) (eI _ rfl) λu h' tk y m=>?_⟩;·exact⟨⟨_,bC _ (eI _ rfl),rfl,rfl⟩,(hl.push _).push _,(I.hb hc).mono λa o _ k=>bC _ (bC _ k)⟩
 ·refine⟨.int (maxD ns i),H,I.kept (h':=h') (t':=tk) λb o f=>m b o (λhm=>?_) (λhm=>?_) (bC _ (bC _ f)),?_,q⟩;·rw[List.mem_singleton.mp hm]at f;exact Nat.lt_irrefl _ (bA f)
  ·have :=bA f;rw[hm,Heap.size_push]at this;exact Nat.not_succ_lt_self this
  ·rcases y with⟨rfl,rfl⟩|⟨x,t,rfl⟩;·exact C
   ·refine⟨t,?_⟩;cases ns with|nil=>exact absurd rfl x|cons a r=>rfl
end
noncomputable def ZI(K:PySem.W.Frag)(t tk:TA):TE:=λσ H Q=>t σ H λvs b=>tk σ b λc a=>∃p ns i,vs=[.ref p]/\c=[.int i]/\bI K a p (ns.map V.int)/\Q (.int (maxD ns i)) a
theorem QH{X:Cx}{e d:Expr}{t tk:TA}{p kp a:Pos}(hm:X.mg "max"=none)(ha:PA X [e] t)(k:PK X [⟨some (Str.ofString "default"),d,kp⟩] tk)(hc:X.calm=true:=by rfl)(j:Gl X "max":=by rfl)(b:starEach [e] X.env=[(false,eval e X.env)]:=by rfl):PE X (.Call (.Name "max" p) [e] [⟨some (Str.ofString "default"),d,kp⟩] a) (ZI X.K t tk):=by intro pins s σ H Q I h;refine pM (iR I j hm LZ ?_);refine callWith_kw (bH (ha a pins s σ H _ I h) λus s1⟨vs,c,f,n,l⟩=>bH (k a pins s1 σ c _ f l) λws s2⟨y,x,g,o,m⟩=>?_) (by rw[b];rfl) (by rw[b];rfl);obtain⟨p,ns,i,rfl,rfl,hq,q⟩:=m;obtain⟨u,rfl,r⟩:=n.one;cases r;obtain⟨v,rfl,w⟩:=o.one;exact Kz hc g hq w q
theorem gS{H a:Hp}{p:Addr}{o:HO}(h:ay H a)(c:H p=none):ay H (upd a p o):=λb u q=>by rw[aI (aD q c)];exact h b u q
theorem Dq{J:It}{p:Addr}{k:Hp}{g:TG}{z:TT}{w:TE}{b:L2.St}{C:Hp->Prop}(n:Nat)(f:Nat->Option V)(s:k p=none)(hn:n<=sizeLine)(D:∀i a,i<n->ay k a->J.go i a/\∀x h,J.vB i a x h->∀(R:V->Hp->Prop)(r:Hp->Prop),(∀v j,f i=some v->ay a j->R v j)->(∀d,f i=none->ay a d->r d)->g x b h λo q=>z o q λok d=>if ok=true then w o d R else r d)(hd:∀a,ay k a->a p=some (.lst ((List.range n).filterMap f))->J.stop n a/\C a):∃W:Nat->Nat->List V->Hp->Prop,(∃m,W 0 m [] (upd k p (.lst [])))/\∀i m c a,W i m c a->(J.stop i a/\C a)\/(J.go i a/\∀x h,J.vB i a x h->g x b h λo q=>z o q λok d=>if ok=true then w o d λv j=>j p=some (.lst c)/\c.length<sizeLine/\∃l,l<m/\W (i+1) l (c++[v]) (upd j p (.lst (c++[v])))else∃l,l<m/\W (i+1) l c d):=by
 refine mC (Q:=λ_ H=>C H) n (λi c a=>c=(List.range i).filterMap f/\a p=some (.lst c)/\ay k a) ⟨rfl,aq,av s _⟩ ?_ ?_
 ·rintro i c a hi⟨rfl,h2,s2⟩;obtain⟨A,B⟩:=D i a hi s2;have E:((List.range i).filterMap f).length<sizeLine:=by have :=List.length_filterMap_le f (List.range i);rw[List.length_range]at this;lia
  refine⟨A,λx h y=>B x h y _ _ (λv j e u=>⟨u _ _ h2,E,nx hi ⟨?_,aq,gS (s2.trans u) s⟩⟩) λd e t=>nx hi ⟨?_,t _ _ h2,s2.trans t⟩⟩;·rw[List.range_succ,List.filterMap_append];simp[e]
  ·rw[List.range_succ,List.filterMap_append];simp[e]
 ·rintro c a⟨rfl,h2,s2⟩;exact hd a s2 h2
theorem nq{J:It}{p:Addr}{h:Hp}{g:TG}{s:TE}{b:L2.St}{C:Hp->Prop}(n:Nat)(f:Nat->V)(q:h p=none)(hn:n<=sizeLine)(w:∀i a,i<n->ay h a->J.go i a/\∀x d,J.vB i a x d->∀(R:V->Hp->Prop),(∀e,ay a e->R (f i) e)->g x b d λk l=>s k l R)(hd:∀a,ay h a->a p=some (.lst ((List.range n).map f))->J.stop n a/\C a):∃W:Nat->Nat->List V->Hp->Prop,(∃m,W 0 m [] (upd h p (.lst [])))/\∀i m c a,W i m c a->(J.stop i a/\C a)\/(J.go i a/\∀x d,J.vB i a x d->g x b d λk l=>EO k l λok o=>if ok=true then s k o λv e=>e p=some (.lst c)/\c.length<sizeLine/\∃j,j<m/\W (i+1) j (c++[v]) (upd e p (.lst (c++[v])))else∃j,j<m/\W (i+1) j c o):=by
 refine mC (Q:=λ_ H=>C H) n (λi c a=>c=(List.range i).map f/\a p=some (.lst c)/\ay h a) ⟨rfl,aq,av q _⟩ ?_ ?_;·rintro i c a hi⟨rfl,h2,s2⟩;obtain⟨t,u⟩:=w i a hi s2;refine⟨t,λx d y=>?_⟩;simp only[EO,if_true];refine u x d y _ λe r=>⟨r _ _ h2,by rw[cy,List.length_range];lia,nx hi ⟨?_,aq,gS (s2.trans r) q⟩⟩;rw[List.range_succ,List.map_append];rfl
 ·rintro c a⟨rfl,h2,s2⟩;exact hd a s2 h2
noncomputable def Kx(xs ys:List V):Bool:=decide (xs.length=ys.length)&&(List.range xs.length).all λj=>Kf ((xs[j]?).getD .aO) ((ys[j]?).getD .aO)
noncomputable def abW(K:PySem.W.Frag):R2:=λx y H Q=>∃p q xs ys,x= .ref p/\y= .ref q/\bI K H p xs/\bI K H q ys/\xs.all i7=true/\ys.all i7=true/\Q (.bl (Kx xs ys)) H
theorem T7{X:Cx}(J:X.A.units+1<cLine):mf X (compareOp .Eq) (abW X.K):=by
 intro pins s σ H x y v u Q I D E h;obtain⟨p,q,xs,ys,rfl,rfl,r,t,n,o,h⟩:=h;cases D;cases E;obtain⟨its,l,g,_⟩:=I.list r;obtain⟨c,m,k,_⟩:=I.list t;have f:=l.length;have A:=m.length;by_cases d:xs.length=ys.length
 ·refine SeqAt.eq_listAt g.isList k.isList (e:=λj=>Kf ((xs[j]?).getD .aO) ((ys[j]?).getD .aO)) (by simp;lia) (by lia) (λj h1 h2=>?_) ⟨.bl _,H,I,rfl,?_⟩
  ·have a:j<xs.length:=by simpa[f]using h1
   have b:j<ys.length:=by simpa[A]using h2
   obtain⟨F,e1,w⟩:=l.get (i:=j) (x:=xs[j]) (by simp[a]);obtain⟨G,e2,z⟩:=m.get (i:=j) (x:=ys[j]) (by simp[b]);have B:its.toArray[j]=F:=by
    have :its[j]?=some its.toArray[j]:=by simp
    rw[e1]at this;exact(Option.some.inj this).symm
   have C:c.toArray[j]=G:=by
    have :c[j]?=some c.toArray[j]:=by simp
    rw[e2]at this;exact(Option.some.inj this).symm
   rw[B,C];simp only[dR a,dR b,Option.getD_some];exact NH w z (List.all_eq_true.mp n _ (List.getElem_mem a)) (List.all_eq_true.mp o _ (List.getElem_mem b))
  ·have e:Kx xs ys=(List.range its.toArray.size).all λj=>Kf ((xs[j]?).getD .aO) ((ys[j]?).getD .aO):=by unfold Kx;rw[decide_eq_true d,Bool.true_and,cE,f]
   rw[e]at h;exact h
 ·have e:Kx xs ys=false:=by unfold Kx;rw[decide_eq_false d,Bool.false_and]
  rw[e]at h;exact SeqAt.eq_list_lengthsAt g.isList k.isList (by simp;lia) (by lia) ⟨.bl false,H,I,rfl,h⟩
end L3
end
section
namespace HT
open PySem PyProof.Rows
section
open PySem.SeqAt
open PySem.AutoSeq1(wpAny_loadPart')
open PySem.MeetsSeq PySem.MeetsSeq2 PySem.MeetsSeq3
variable{prog:Program}{w:World}{A:Around}{E:Value->Shared->Prop}{s:Shared}
theorem jR{t sl:Addr}{items:Array Value}{b c:Value}{lo hi:Option Int}{Q:Value->Shared->Prop}(ht:IsTup s.heap t items)(a:s.heap.IsSliceOf sl b c .none)(pl:IsPart b lo)(i:IsPart c hi)(h1:dH items.size 0 lo=0)(h2:dH items.size items.size hi=items.size)(h:Q (.ref t) s):wpAny (model prog w) A (getItem (.ref t) (.ref sl)) Q E s:=by
 obtain⟨os,f,e,j⟩:=id a;have d:s.TypeIs (.ref sl) "slice":=⟨os,f,e⟩;unfold getItem;try with_reducible refine iJ ?_
 first|refine ao (aU ?_)|skip
 refine ao (wpAny_sequenceKey ht.typeIs (by decide) ?_);refine ao (wpAny_callSpecial?_slot (name:=Str.ofString "__getitem__") ht.typeIs PyProof.Rows.slot_tuple_getitem (jO PyProof.Rows.slot_tuple_getitem ht.typeIs entry_tuple_getitem ?_ (args_tuple_getitem _ _)));show wpAny _ _ (Builtin.Tuple.tupleItemsOf (.ref t)>>=_) _ _ s;refine ao (tupleItemsOf_ ht ?_);refine ao (wpAny_typeOf d ?_);rw[if_pos (by decide)];refine ao (gV a pl i ?_);have g:(((dH items.size 0 lo:Nat):Int)==0&&(1:Int)==1&&(dH items.size items.size hi-dH items.size 0 lo)==items.size)=true:=by rw[h1,h2];simp
 show wpAny _ _ (if(((dH items.size 0 lo:Nat):Int)==0&&(1:Int)==1&&(dH items.size items.size hi-dH items.size 0 lo)==items.size)=true then _ else _) _ _ s;rw[if_pos g];show wpAny _ _ (Builtin.Tuple.tupleIsExact (.ref t)>>=_) _ _ s;refine ao ?_;unfold Builtin.Tuple.tupleIsExact;refine ao (wpAny_typeOf ht.typeIs (aU ?_));rw[if_pos (by decide)];exact ao (wpAny_rule (aU ⟨_,rfl,aU h⟩))
end
end HT
end
section
namespace L3
open PySem PySem.Spec PyProof.Rows L2
noncomputable def abl(K:PySem.W.Frag):V->Option Int->Option Int->Hp->VK->Prop:=λx lo hi H Q=>∃a xs,x= .ref a/\bQ K H a xs/\(∀p,H p=none->Q (.ref p) (upd H p (.tup (iZ xs lo hi))))/\(iZ xs lo hi=xs->Q (.ref a) H)
theorem Ha{X:Cx}:PX X (abl X.K):=by
 intro pins s σ H x v i j lo hi sl Q I e b pl d h;obtain⟨a,xs,rfl,c,f,g⟩:=h;by_cases hw:HT.dH xs.length 0 lo=0/\HT.dH xs.length xs.length hi=xs.length
 ·cases e;obtain⟨its,r,ht,k⟩:=I.tuple c;have hlen:its.toArray.size=xs.length:=by rw[cE];exact r.length.symm
  refine⟨"tuple",_,PyProof.Rows.slot_tuple_getitem.lookup,ht.typeIs,?_⟩;refine HT.jR ht b pl d (by rw[hlen];exact hw.1) (by rw[hlen];exact hw.2) ⟨.ref a,H,I,rfl,g ?_⟩;unfold iZ;rw[hw.1,hw.2,List.drop_zero,Nat.sub_zero,List.take_length]
 ·exact WC pins s σ H _ v i j lo hi sl Q I e b pl d ⟨a,xs,rfl,c,hw,f⟩
theorem xb(xs:List V)(k:Nat):iZ xs (some (k:Int)) none=xs.drop k:=by
 unfold iZ;rw[HT.BR,HT.rG];by_cases h:k<=xs.length;·rw[Nat.min_eq_left h];exact C2 (by rw[vb];lia)
 ·rw[Nat.min_eq_right (by lia),List.drop_eq_nil_of_le (bf _),List.drop_eq_nil_of_le (show xs.length<=k by lia)];simp
theorem QC(xs:List V)(k:Nat):iZ xs none (some (k:Int))=xs.take k:=by
 unfold iZ;rw[HT.BR,HT.rG,List.drop_zero,Nat.sub_zero];by_cases h:k<=xs.length;·rw[Nat.min_eq_left h]
 ·rw[Nat.min_eq_right (by lia),C2 (bf _),C2 (show xs.length<=k by lia)]
section
variable{X:Cx}{K:PySem.W.Frag}
theorem Ak(a:X.K=K:=by rfl):iF X (.builtin "isinstance") (λxs H Q=>∃x t n b,xs=[x, .ty n]/\kH K H x t/\PySem.W.kitOne K t (.type n)=some b/\Q (.bl b) H):=by subst a;exact cI
theorem HP(a:X.K=K:=by rfl):IxR X (Z4 K):=by subst a;exact aW
end
noncomputable def yG:List Nat->Nat|[]=>0|a::r=>max a (yG r)
end L3
end
section
namespace L3
open PySem PySem.Spec L2
variable{K:PySem.W.Frag}
def m4(K:PySem.W.Frag)(a:Addr)(xs:List V):Prop:=∃(o:Obj)(its:Array Value)(n:Nat),K.lookup a=some o/\o.cls= .type "tuple"/\o.data= .seq its n/\its.size<=sizeLine/\Vals xs its.toList
structure KD(K:PySem.W.Frag)(a:Addr)(rows:List (Str×List V))(as:List Addr):Prop where
 len:as.length=rows.length
 tab:iy K a ((rows.zip as).map λp=>(p.1.1,V.ref p.2))
 sq:∀p∈rows.zip as,m4 K p.2 p.1.2
theorem jB{c d:Type}{x:Str}(f:(Str×c)×d->V):∀(rows:List (Str×c))(as:List d),as.length=rows.length->(∃r a,(r,a)∈rows.zip as/\r.1=x/\rows.lookup x=some r.2/\PyProof.Rows.KTD.datumAt x ((rows.zip as).map λp=>(p.1.1,f p))=some (f (r,a)))\/(rows.lookup x=none/\PyProof.Rows.KTD.datumAt x ((rows.zip as).map λp=>(p.1.1,f p))=none)
 |[],_,_=> .inr ⟨rfl,rfl⟩
 |(k,v)::rows,[],h=>by simp at h
 |(k,v)::rows,a::as,h=>by
  have g:=jB (x:=x) f rows as (by simpa using h);by_cases e:x=k;·subst e;exact .inl ⟨(x,v),a,cj,rfl,by simp[List.lookup],by simp[PyProof.Rows.KTD.datumAt]⟩
  ·have e1:(x==k)=false:=by simpa using e
   have e2:¬k=x:=λz=>e z.symm;rcases g with⟨r,b,h1,h2,h3,h4⟩|⟨h1,h2⟩;·exact .inl ⟨r,b,cF _ h1,h2,by rw[jS,e1];exact h3,by simp only[List.zip_cons_cons,dQ,PyProof.Rows.KTD.datumAt,e,decide_false,Bool.false_eq_true,if_false];exact h4⟩
   ·exact .inr ⟨by rw[jS,e1];exact h1,by simp only[List.zip_cons_cons,dQ,PyProof.Rows.KTD.datumAt,e,decide_false,Bool.false_eq_true,if_false];exact h2⟩
theorem KD.some{a:Addr}{rows:List (Str×List V)}{as:List Addr}(T:KD K a rows as){x:Str}{ds:List V}(h:rows.lookup x=Option.some ds):∃b,PyProof.Rows.KTD.datumAt x ((rows.zip as).map λp=>(p.1.1,V.ref p.2))=Option.some (.ref b)/\∀H,bQ K H b ds:=by
 rcases jB (x:=x) (λp=>V.ref p.2) rows as T.len with⟨r,b,h1,h2,h3,h4⟩|⟨h1,_⟩;·rw[h]at h3;cases h3;exact⟨b,h4,λH=> .inr (T.sq _ h1)⟩
 ·rw[h]at h1;cases h1
theorem KD.DG{a:Addr}{rows:List (Str×List V)}{as:List Addr}(T:KD K a rows as)(x:Str):L3.DG x ((rows.zip as).map λp=>(p.1.1,V.ref p.2))=(rows.lookup x).isSome:=by
 unfold L3.DG;rcases jB (x:=x) (λp=>V.ref p.2) rows as T.len with⟨r,b,h1,h2,h3,h4⟩|⟨h1,h2⟩;·rw[h3,h4];rfl
 ·rw[h1,h2];rfl
noncomputable def aT:List V->List Value->Bool|[],[]=>true| .str x::vs, .str y _::us=>decide (x=y)&&aT vs us| .int i::vs, .int j _::us=>decide (i=j)&&aT vs us|_,_=>false
theorem kY:∀{vs:List V}{us:List Value},aT vs us=true->Vals vs us|[],[],_=> .nil| .str x::vs, .str y t::us,h=>by simp only[aT,bD,decide_eq_true_eq]at h;obtain⟨rfl,h⟩:=h;exact .cons ⟨t,rfl⟩ (kY h)| .int x::vs, .int y t::us,h=>by simp only[aT,bD,decide_eq_true_eq]at h;obtain⟨rfl,h⟩:=h;exact .cons ⟨t,rfl⟩ (kY h)|[],_::_,h=>by simp[aT]at h|_::_,[],h=>by simp[aT]at h| .aO::_,_::_,h=>by simp[aT]at h| .bl _::_,_::_,h=>by simp[aT]at h| .Iv _::_,_::_,h=>by simp[aT]at h| .S5 _::_,_::_,h=>by simp[aT]at h| .ref _::_,_::_,h=>by simp[aT]at h| .ty _::_,_::_,h=>by simp[aT]at h| .str _::_, .none::_,h=>by simp[aT]at h| .str _::_, .int _ _::_,h=>by simp[aT]at h| .str _::_, .ref _::_,h=>by simp[aT]at h| .str _::_, .bool _::_,h=>by simp[aT]at h| .str _::_, .float _ _::_,h=>by simp[aT]at h| .str _::_, .bytes _ _::_,h=>by simp[aT]at h| .str _::_, .type _::_,h=>by simp[aT]at h| .str _::_, .builtin _::_,h=>by simp[aT]at h| .str _::_, .ellipsis::_,h=>by simp[aT]at h| .str _::_, .notImplemented::_,h=>by simp[aT]at h| .int _::_, .none::_,h=>by simp[aT]at h| .int _::_, .str _ _::_,h=>by simp[aT]at h| .int _::_, .ref _::_,h=>by simp[aT]at h| .int _::_, .bool _::_,h=>by simp[aT]at h| .int _::_, .float _ _::_,h=>by simp[aT]at h| .int _::_, .bytes _ _::_,h=>by simp[aT]at h| .int _::_, .type _::_,h=>by simp[aT]at h| .int _::_, .builtin _::_,h=>by simp[aT]at h| .int _::_, .ellipsis::_,h=>by simp[aT]at h| .int _::_, .notImplemented::_,h=>by simp[aT]at h
noncomputable def bL(vs:List V)(its:Array Value):Bool:=aT vs its.toList&&decide (its.size<=100)
theorem bR{K:PySem.W.Frag}{a:Addr}{d:Option Addr}{its:Array Value}{n:Nat}{sl:Array (Option Value)}{vs:List V}(h:K.lookup a=some ⟨.type "tuple",d, .seq its n,sl⟩)(c:bL vs its=true):m4 K a vs:=by simp only[bL,bD,decide_eq_true_eq]at c;exact⟨_,its,n,h,rfl,rfl,cq c.2 (by decide),kY c.1⟩
noncomputable def fh:List DictEntry->List Str->Bool|[],[]=>true|e::es,k::a=>(match e.key,e.val with| .str x _, .ref _=>decide (x=k)|_,_=>false)&&fh es a|_,_=>false
noncomputable def refsOf(es:List DictEntry):List Addr:=es.map λe=>match e.val with| .ref a=>a|_=>0
theorem yy:∀{es:List DictEntry}{a:List Str},fh es a=true->PyProof.Rows.KTD.Rows RelV es ((a.zip (refsOf es)).map λp=>(p.1,V.ref p.2))
 |[],[],_=> .nil
 |[],_::_,h=>by simp[fh]at h
 |_::_,[],h=>by simp[fh]at h
 |e::es,k::a,h=>by
  obtain⟨d,c,val⟩:=e;rw[fh,bD]at h;cases c with
   |str x t=>
    cases val with
     |ref b=>
      have h1:x=k:=by simpa using h.1
      subst h1;exact .cons rfl rfl (yy h.2)
     |_=>simp at h
   |_=>simp at h
theorem Y8{a:Addr}{es:Array DictEntry}{ep:Nat}{rows:List (Str×List V)}{as:List Addr}(e:(a==sysModules)=false)(c:K.lookup a=some ⟨.type "dict",none, .dict es ep,#[]⟩)(b:fh es.toList (rows.map (·.1))=true)(d:refsOf es.toList=as)(hl:as.length=rows.length)(sq:∀p∈rows.zip as,m4 K p.2 p.1.2):KD K a rows as:=by refine⟨hl,⟨e,_,es,ep,c,⟨rfl,rfl,rfl⟩,rfl,?_⟩,sq⟩;have h:=yy b;rw[d,List.zip_map_left,List.map_map]at h;exact h
theorem b9{r:Str×List V}{b:Addr}{rows:List (Str×List V)}{as:List Addr}(h:m4 K b r.2)(t:∀p∈rows.zip as,m4 K p.2 p.1.2):∀p∈(r::rows).zip (b::as),m4 K p.2 p.1.2:=λp a=>by
 rcases List.mem_cons.mp a with rfl|a;·exact h
 ·exact t p a
theorem Wg:∀p∈([]:List (Str×List V)).zip ([]:List Addr),m4 K p.2 p.1.2:=λp a=>by simp at a
noncomputable def hI:List DictEntry->List (Str×Int)->Bool|[],[]=>true|e::es,(k,i)::a=>(match e.key,e.val with| .str x _, .int j _=>decide (x=k)&&decide (j=i)|_,_=>false)&&hI es a|_,_=>false
theorem uU:∀{es:List DictEntry}{a:List (Str×Int)},hI es a=true->PyProof.Rows.KTD.Rows RelV es (a.map λp=>(p.1,V.int p.2))
 |[],[],_=> .nil
 |[],_::_,h=>by simp[hI]at h
 |_::_,[],h=>by simp[hI]at h
 |e::es,(k,i)::a,h=>by
  obtain⟨d,c,val⟩:=e;rw[hI,bD]at h;cases c with
   |str x t=>
    cases val with
     |int b u=>
      have h1:x=k/\b=i:=by simpa using h.1
      obtain⟨rfl,rfl⟩:=h1;exact .cons rfl ⟨u,rfl⟩ (uU h.2)
     |_=>simp at h
   |_=>simp at h
theorem PY{a:Addr}{es:Array DictEntry}{ep:Nat}{rows:List (Str×Int)}(d:(a==sysModules)=false)(c:K.lookup a=some ⟨.type "dict",none, .dict es ep,#[]⟩)(b:hI es.toList rows=true):iy K a (rows.map λp=>(p.1,V.int p.2)):=⟨d,_,es,ep,c,⟨rfl,rfl,rfl⟩,rfl,uU b⟩
end L3
end
section
namespace L3
open PySem PySem.Spec PyProof.Rows L2
structure MadeX(h h':Heap)(e C:Addr)(hh:Option Value):Prop where
 keeps:∀b o,h.get? b=some o->h'.get? b=some o
 new:h.get? e=none
 there:∃oe vs t c,h'.get? e=some oe/\oe.cls= .ref C/\oe.data= .fields vs/\vs[0]?=some (.ref t)/\vs[1]?=some .none/\vs[2]?=some c/\(hh=none->c= .none)
section
variable{prog:Program}{w:World}{A:Around}{E:Value->Shared->Prop}{s:Shared}
theorem JC{g:Type}{Q:g->Shared->Prop}{h₀:Heap}{e C:Addr}{vs:List Value}(hb:HB h₀ A)(hm:Heap.MadeExcOf h₀ s.heap e (.ref C) vs)(f:∀h',MadeX h₀ h' e C A.handled->E (.ref e) {s with heap:=h'}):wpAny (model prog w) A (raiseNew (.ref e):Sem g) Q E s:=by
 obtain⟨t,d,_,_⟩:=hm.there;simp only[raiseNew];refine ao (wpAny_handled ?_);rcases hb with hb|⟨a,oe,ws,hb,e1,e2,e3⟩;·rw[hb];refine ao (aU (wpAny_throw (f s.heap ⟨hm.keeps,hm.new,_,_,t,_,d,rfl,rfl,rfl,rfl,rfl,λ_=>rfl⟩)))
 ·rw[hb];have ne:a≠e:=λz=>by rw[z,hm.new]at e1;cases e1
  dsimp only;rw[if_pos (by simpa using ne)];refine ao (iJ (BH (hm.keeps _ _ e1) e2 e3 ?_));refine ao ?_;show wpAny (model prog w) A (setField (.ref e) 2 (.ref a)) _ _ _;refine wpAny_setField d rfl (by simp) (wpAny_throw (f _ ⟨λb o c=>?_,hm.new,_,_,t, .ref a,Av _ d (Obj.isFreed_of_fields (Obj.data_mapFields rfl _)),Obj.cls_mapFields _ _,Obj.data_mapFields rfl _,by simp,by simp,by simp,λz=>by rw[hb]at z;cases z⟩));rw[jJ _ _ λz=>by rw[<-z,hm.new]at c;cases c];exact hm.keeps b o c
end
def jM(K:PySem.W.Frag)(C:Addr):Prop:=∃a newId b,ExcBaseFacts "ValueError" newId b a/\PySem.W.excIn K C a newId=true
theorem CK{K:PySem.W.Frag}{h:Heap}{C:Addr}{o:List Value}{newId:String}(X:K.In h)(q:PySem.W.excIn K C o newId=true):∃bm N j k bs u m sub f g i a b c d e t,h.get? C=some (excClassObj j k C N bs bm u m sub f g i a b c d e newId)/\h.Ns N t/\t "__init__"=none/\OwnTail h o bm:=by
 unfold PySem.W.excIn at q;split at q
 ·rename_i i cd sl v;split at q
  ·rename_i x bm a b c d n e hm s;simp only[bD,beq_iff_eq,Bool.not_eq_true']at q;obtain⟨⟨⟨⟨⟨rfl,rfl⟩,p⟩,ht⟩,bK⟩,r⟩:=q;obtain⟨j,bs,z,ns,k,hd,m,sub,f,g,y⟩:=cd;dsimp only at hm p bK r;subst hm p;have w:sl=#[a,b,c,d,some (.builtin n),e]:=by obtain⟨l⟩:=sl;simp only at s;rw[s]
   subst w;exact⟨bm,ns,j,k,bs,hd,m,sub,f,g,i,a,b,c,d,e,_,X _ _ v, .of_isNs (PySem.W.isNs_of_in X bK),PySem.W.nsMap_none_of_in X bK r,PySem.W.tail_of_in X ht⟩
  ·cases q
 ·cases q
noncomputable def VD(G:Hp->Prop)(t:TA):TS:=λD σ H=>t σ H λvs a=>vs.length<=100/\G a
theorem cB{X:Cx}{G:Hp->Prop}{x:Str}{C:Addr}{b:Expr}{t:TA}{n dy pos:Pos}(B:jM X.K C)(hm:X.mg x=some (.ref C))(ha:PA X [b] t)(P:∀pins σ H s e h',Inv X pins σ H s->MadeX s.heap h' e C X.A.handled->G H->X.xe (.ref e) {s with heap:=h'})(hc:X.calm=true:=by rfl)(M:Gl X x:=by rfl)(F:(x==("__debug__":Str))=false:=by decide)(K:starEach [b] X.env=[(false,eval b X.env)]:=by rfl):PS X (.Raise (some (.Call (.Name x n) [b] [] dy)) none pos) (VD G t):=by
 intro pins s σ H D I h;obtain⟨W0,newId,MI,FB,q⟩:=B;have W:wpAny (model X.prog X.w) X.A (eval (.Call (.Name x n) [b] [] dy) X.env) (λv a=>∃e t h₀ vs,v= .ref e/\X.K.In a.heap/\a.heap.get? e=some {cls:= .ref C,data:= .fields #[.ref t, .none, .none, .none, .bool false, .none]}/\HB h₀ X.A/\Heap.MadeExcOf h₀ a.heap e (.ref C) vs/\∀h',MadeX h₀ h' e C X.A.handled->X.xe (.ref e) {a with heap:=h'}) X.xe s:=by refine pM (fb I M hm ?_ F);have m:=ha dy pins s σ H _ I h;rw[K]at m⊢;unfold callWith;refine ao (iJ (Calls.evalArgs_plain (bH m λus s1⟨vs,o,i,r,hl,g⟩=>ao (wpAny_standAt ?_))));obtain⟨bm,N,nm,qn,bs,J,sn,sub,p,u,w,Q,R,S,U,V,Y,c,j,k,T⟩:=CK i.gL q;have hb:=i.hb hc;have O:=P pins σ o s1;have DD:=i.gL;obtain⟨l,y,d,tk,os⟩:=s1;show wpAny _ _ (keeperOf (.ref C)>>=_) _ _ _;refine ao (wpAny_keeperOf_exc c ?_);refine ao (wpAny_call_exc_subT (hrest:=by rw[List.nil_append,<-r.length];exact cq hl (by decide)) FB T c j k λh' e f=>ao (iJ (wpAny_point (aU ?_))));obtain⟨t,ht,_,_⟩:=f.there;exact⟨e,t,l,_,rfl,DD.keeps f.keeps,ht,hb,f,λz Z=>O e z i Z g⟩
 rw[arm_exec_Raise];refine ao (wpAny_standAt ?_);unfold raiseStmt;refine ao (ao (bH W λv a h₁=>ao (wpAny_standAt (aU ?_))));obtain⟨e,t,h₀,vs,rfl,DD,L,hb,f,A⟩:=h₁;obtain⟨bm,N,nm,qn,bs,J,sn,sub,p,u,w,Q,R,S,U,V,Y,c,j,k,T⟩:=CK DD q;have E:(Value.ref C::bm).contains (.type "BaseException")=true:=by rw[List.contains_cons,T.hasType FB.hasBase,Bool.or_true]
 obtain⟨l,y,d,tk,os⟩:=a;repeat(first|with_reducible refine wpAny_loadPart_at L ?_|with_reducible refine wpAny_loadPart_at c ?_|(with_reducible refine wpAny_isSubtype_exc c ?_;rw[E])|wp_step)
 exact JC hb f A
def Ex(h:Heap)(a C:Addr)(T c:Value):Prop:=∃oe vs a0,h.get? a=some oe/\oe.cls= .ref C/\oe.data= .fields vs/\vs[0]?=some a0/\vs[1]?=some T/\vs[2]?=some c
def Tb(h:Heap)(T:Addr)(fl:Value):Prop:=∃a ts,h.get? T=some a/\a.data= .fields ts/\ts[3]?=some fl
structure Oe(fs:List Addr)(xs:List Addr)(h h':Heap):Prop where
 keep:∀b o,h.get? b=some o->b∉fs->b∉xs->h'.get? b=some o
 slot:∀b o,h.get? b=some o->b∈fs->b∉xs->∃sl,h'.get? b=some {o with slots:=sl}
section
variable{M:Model}{A:Around}{E:Value->Shared->Prop}{s:Shared}
theorem Y1{base:Heap}{l:List Env}{b:Addr}{o:Obj}{vs:Array Value}(hl:s.heap.FunFrames base l)(e:s.heap.get? b=some o)(d:o.data= .fields vs):b∉jq l:=λhm=>by obtain⟨_,o',a,c⟩:=hl.mem hm;rw[e]at a;cases a;exact c vs d
theorem wt{base:Heap}{env:Env}{outer:List Env}{L a C:Addr}{head T c:Value}{r:Bool}{Q:Unit->Shared->Prop}(u:A.frames=some (env::outer))(hl:s.heap.FunFrames base (env::outer))(t:env.frame=some L)(x:Ex s.heap a C T c)(h:∀h' g,Ex h' a C (.ref g) c->Tb h' g (rawInt L)->s.heap.get? g=none->g≠a->Oe (jq (env::outer)) [a] s.heap h'->Q () {s with heap:=h'}):wpAny M A (do let f<-frameOf env;let pl<-entryPlaceOf L r;let b<-EntryCells.newEntry head f .none (rawInt L) .none pl;setField (.ref a) 1 b) Q E s:=by
 obtain⟨oe,vs,a0,k,hc,hd,q,h1,h2⟩:=x;have v:a∉jq (env::outer):=Y1 hl k hd;refine ao (wpAny_frameOf_fun u hl t λd i=>ao (wpAny_entryPlaceOf λpl l=>?_));unfold EntryCells.newEntry newFields;refine ao (wpAny_newObj_type ?_ (l.sizeOk5 _ _ _ _ _));have j:d.get? a=some oe:=(i.2.1 a v).trans k;have sz:d.objs.size=s.heap.objs.size:=i.1;have p:d.objs.size≠a:=Nat.ne_of_gt (bA j);refine wpAny_setField (bC _ j) hd (Array.getElem?_eq_some_iff.mp h1).1 (h _ d.objs.size ?_ ?_ ?_ p ?_)
 ·refine⟨_,_,a0,Av _ (bC _ j) (Obj.isFreed_of_fields (Obj.data_mapFields hd _)),(Obj.cls_mapFields _ _).trans hc,Obj.data_mapFields hd _,?_,?_,?_⟩;·rw[Array.getElem?_setIfInBounds_ne (by decide)];exact q
  ·have :=(Array.getElem?_eq_some_iff.mp h1).1;simp[this]
  ·rw[Array.getElem?_setIfInBounds_ne (by decide)];exact h2
 ·refine⟨_,_,(jJ _ _ (Ne.symm p)).trans (eI _ rfl),rfl,?_⟩;first|(simp;done)|(rcases l with rfl|⟨_,_,_,_,_,_,_,rfl⟩<;>simp)
 ·rw[sz];exact Heap.get?_none_of_le (bf _)
 ·refine⟨λb o e n m=>?_,λb o e n m=>?_⟩;·have e1:d.get? b=some o:=(i.2.1 b n).trans e;rw[jJ _ _ λz=>m (by simp[z])];exact bC _ e1
  ·obtain⟨sl,e1⟩:=i.2.2 b o e;refine⟨sl,?_⟩;rw[jJ _ _ λz=>m (by simp[z])];exact bC _ e1
theorem Ec{base:Heap}{env:Env}{outer:List Env}{L a C:Addr}{c:Value}{Q:Unit->Shared->Prop}(f:A.frames=some (env::outer))(hl:s.heap.FunFrames base (env::outer))(d:env.frame=some L)(x:Ex s.heap a C .none c)(h:∀h' b,Ex h' a C (.ref b) c->Tb h' b (rawInt L)->s.heap.get? b=none->b≠a->Oe (jq (env::outer)) [a] s.heap h'->Q () {s with heap:=h'}):wpAny M A (noteFrame (.ref a) env) Q E s:=by obtain⟨oe,vs,a0,e,hc,hd,g,h1,h2⟩:=id x;unfold noteFrame;simp only[d];refine ao (dC e hd h1 ?_);rw[if_neg (by decide)];exact wt f hl d x h
theorem IU{base:Heap}{env:Env}{outer:List Env}{L a C T:Addr}{c:Value}{Q:Unit->Shared->Prop}(u:A.frames=some (env::outer))(hl:s.heap.FunFrames base (env::outer))(l:env.frame=some L)(x:Ex s.heap a C (.ref T) c)(y:Tb s.heap T .none)(t:T≠a)(h:∀h' d,Ex h' a C (.ref d) c->Tb h' d (rawInt L)->s.heap.get? d=none->d≠a->Oe (jq (env::outer)) [a,T] s.heap h'->Q () {s with heap:=h'}):wpAny M A (noteFrame (.ref a) env) Q E s:=by
 obtain⟨oe,vs,a0,k,hc,hd,r,h1,h2⟩:=id x;obtain⟨F,ts,g,dT,h3⟩:=y;unfold noteFrame;simp only[l];refine ao (dC k hd h1 ?_);rw[if_pos (show(Value.ref T !=Value.none)=true from by simp)];refine ao (dC g dT h3 ?_);rw[if_neg (show¬((Value.none==rawInt L)=true)from by simp[rawInt])];refine ao (wpAny_setField g dT (Array.getElem?_eq_some_iff.mp h3).1 ?_);have f:∀b,b≠T->(s.heap.update T (Obj.mapFields (·.setIfInBounds 3 Value.none))).get? b=s.heap.get? b:=λb hb=>jJ _ _ (Ne.symm hb);have v:∀b o,s.heap.get? b=some o->(∀vs,o.data≠ .fields vs)->b≠T:=λb o hb i q=>by rw[q,g]at hb;cases hb;exact i ts dT
 refine wt (s:={s with heap:=s.heap.update T (Obj.mapFields (·.setIfInBounds 3 Value.none))}) u (hl.of_keeps λb o hb i=>⟨o,(f b (v b o hb i)).trans hb,rfl⟩) l ⟨oe,vs,a0,(f a (Ne.symm t)).trans k,hc,hd,r,h1,h2⟩ λh' d w B j D p=>h h' d w B ?_ D ⟨λb o e n m=>?_,λb o e n m=>?_⟩
 ·by_cases z:d=T;·rw[z]at j;have :=Av (Obj.mapFields (·.setIfInBounds 3 Value.none)) g (Obj.isFreed_of_fields (Obj.data_mapFields dT _));rw[j]at this;cases this
  ·rw[<-f d z];exact j
 ·exact p.keep b o ((f b λz=>m (by simp[z])).trans e) n λz=>m (by simp at z;simp[z])
 ·exact p.slot b o ((f b λz=>m (by simp[z])).trans e) n λz=>m (by simp at z;simp[z])
theorem oN{a C T:Addr}{c fl:Value}{Q:Unit->Shared->Prop}(x:Ex s.heap a C (.ref T) c)(y:Tb s.heap T fl)(k:T≠a)(h:∀h',Ex h' a C (.ref T) c->Tb h' T .none->(∀b,b≠T->h'.get? b=s.heap.get? b)->Q () {s with heap:=h'}):wpAny M A (setFlight (.ref a) none) Q E s:=by obtain⟨oe,vs,a0,e,hc,hd,j,h1,h2⟩:=x;obtain⟨l,ts,d,dT,h3⟩:=y;have g:=(Array.getElem?_eq_some_iff.mp h3).1;unfold setFlight;refine ao (dC e hd h1 ?_);rw[if_pos (show(Value.ref T !=Value.none)=true from by simp)];have i:∀b,b≠T->(s.heap.update T (Obj.mapFields (·.setIfInBounds 3 ((none:Option Addr).elim Value.none λf=>rawInt f)))).get? b=s.heap.get? b:=λb hb=>jJ _ _ (Ne.symm hb);exact wpAny_setField d dT g (h _ ⟨oe,vs,a0,(i a (Ne.symm k)).trans e,hc,hd,j,h1,h2⟩ ⟨_,_,Av _ d (Obj.isFreed_of_fields (Obj.data_mapFields dT _)),Obj.data_mapFields dT _,by simp[g]⟩ i)
theorem Ct{base:Heap}{env:Env}{outer:List Env}{L a C:Addr}{c:Value}{Q:Unit->Shared->Prop}(l:A.frames=some (env::outer))(hl:s.heap.FunFrames base (env::outer))(k:env.frame=some L)(x:Ex s.heap a C .none c)(h:∀h' d,Ex h' a C (.ref d) c->Tb h' d .none->s.heap.get? d=none->d≠a->Oe (jq (env::outer)) [a] s.heap h'->Q () {s with heap:=h'}):wpAny M A (leaving env (.ref a)) Q E s:=by unfold leaving;refine ao (Ec l hl k x λh1 T1 p t f g j=>oN (s:={s with heap:=h1}) p t g λh2 r u i=>h h2 T1 r u f g ?_);refine⟨λb o e n m=>(i b λz=>by rw[z,f]at e;cases e).trans (j.keep b o e n m),λb o e n m=>?_⟩;obtain⟨sl,q⟩:=j.slot b o e n m;exact⟨sl,(i b λz=>by rw[z,f]at e;cases e).trans q⟩
theorem Es{base:Heap}{env:Env}{outer:List Env}{L a C T:Addr}{c:Value}{Q:Unit->Shared->Prop}(p:A.frames=some (env::outer))(hl:s.heap.FunFrames base (env::outer))(l:env.frame=some L)(x:Ex s.heap a C (.ref T) c)(y:Tb s.heap T .none)(k:T≠a)(h:∀h' d,Ex h' a C (.ref d) c->Tb h' d .none->s.heap.get? d=none->d≠a->Oe (jq (env::outer)) [a,T] s.heap h'->Q () {s with heap:=h'}):wpAny M A (leaving env (.ref a)) Q E s:=by unfold leaving;refine ao (IU p hl l x y k λh1 T1 r u f g j=>oN (s:={s with heap:=h1}) r u g λh2 t v i=>h h2 T1 t v f g ?_);refine⟨λb o e n m=>(i b λz=>by rw[z,f]at e;cases e).trans (j.keep b o e n m),λb o e n m=>?_⟩;obtain⟨sl,q⟩:=j.slot b o e n m;exact⟨sl,(i b λz=>by rw[z,f]at e;cases e).trans q⟩
end
theorem ES{P:Program}{w:World}{H:Hp}{h:Heap}{a:Addr}{o:HO}(x:bZ P w H h a o):∃u,h.get? a=some u:=by
 cases o with
  |lst xs=>obtain⟨_,_,_,_,e⟩:=x;exact⟨_,e⟩
  |tup xs=>obtain⟨_,_,_,o,e,_⟩:=x;exact⟨_,e⟩
  |dK aE=>obtain⟨_,_,_,_,o,_,_,e,_⟩:=x;exact⟨_,e⟩
  |dT aE=>obtain⟨_,_,_,_,o,_,_,e,_⟩:=x;exact⟨_,e⟩
  |set S n=>obtain⟨o,_,_,_,e,_⟩:=x;exact⟨_,e⟩
  |ins C dx fs=>obtain⟨_,_,_,e,_⟩:=x;exact⟨_,e⟩
  |own y=>exact x
  |xd fs=>obtain⟨_,⟨_,_,_,e,_⟩,_⟩:=x;exact⟨_,e⟩
  |rng lo hi=>obtain⟨_,_,_,e⟩:=x;exact⟨_,e⟩
  |DE ob u=>obtain⟨e,_⟩:=x;exact⟨_,e⟩
  |vD ps=>cases ps with|tab q ln cl=>rcases x with e|⟨c,e,_⟩<;>exact⟨_,e⟩|code q=>obtain⟨c,o,vs,t,e1,e2,_⟩:=x;cases e1;exact⟨_,e2⟩
  |met f y=>exact⟨_,show h.get? a=some _ from x⟩
  |ext φ=>obtain⟨_,e,_⟩:=x;exact e
theorem uM{P:Program}{w:World}{H:Hp}{h:Heap}{a:Addr}(x:iK P w H h)(e:h.get? a=none):H a=none:=by cases q:H a with|none=>rfl|some o=>obtain⟨u,z⟩:=ES (x a o q);rw[e]at z;cases z
theorem Oe.any{fs xs:List Addr}{h h':Heap}(p:Oe fs xs h h'){b:Addr}{o:Obj}(e:h.get? b=some o)(m:b∉xs):∃sl,h'.get? b=some {o with slots:=sl}:=by
 by_cases hb:b∈fs;·exact p.slot b o e hb m
 ·exact⟨o.slots,p.keep b o e hb m⟩
theorem Qf{P:Program}{w:World}{H:Hp}{h h':Heap}{fs xs:List Addr}(x:iK P w H h)(p:Oe fs xs h h')(c:∀b∈fs,H b=none)(nx:∀b∈xs,H b=none):iK P w H h':=λa o e=>by
 have st:∀b u,H b≠none->h.get? b=some u->h'.get? b=some u:=λb u n q=>p.keep b u q (λz=>n (c b z)) λz=>n (nx b z);refine(x a o e).vE (λb u hb q=>st b u ?_ q) (λ_ q=>q) λ_ _ q=>q;rcases hb with z|z;·rw[z,e];simp
 ·rw[z];simp
structure Vt(X:Cx)(pins:List (Addr×Obj))(H:Hp)(b:Addr):Prop where
 un:H b=none
 new:X.bV.heap.get? b=none
 loc:b≠X.env.locals
 cel:∀x c,X.env.cells.lookup x=some c->c≠b
 pin:∀p∈X.pn++pins,p.1≠b
section
variable{X:Cx}{pins:List (Addr×Obj)}{σ:L2.St}{H H':Hp}{s s':Shared}{h':Heap}{a:Addr}
theorem pT(I:Inv X pins σ H s)(e:s.heap.get? a=none)(f:a∉X.ex)(hn:H' a=none):Vt X pins H' a:=by
 refine⟨hn,?_,λz=>?_,λx c q z=>?_,λp d z=>?_⟩;·cases q:X.bV.heap.get? a with|none=>rfl|some o=>obtain⟨o',z⟩:=I.base.there a o q f;rw[e]at z;cases z
 ·obtain⟨m,⟨o,_,_,b,_⟩,_⟩:=I.loc;rw[<-z,e]at b;cases b
 ·obtain⟨v,o,b,_⟩:=I.cell x c q;rw[z,e]at b;cases b
 ·have :=(I.pin p d).1;rw[z,e]at this;cases this
theorem Inv.stp{ch:List Addr}(I:Inv X pins σ H s)(p:Oe (jq X.stack) ch s.heap h')(hc:∀b∈ch,Vt X pins H b):Inv X pins σ H {s with heap:=h'}:=by
 have h:∀b o,X.bV.heap.get? b=some o->b∉ch:=λb o e z=>by rw[(hc b z).new]at e;cases e
 have w:∀b o,X.bV.heap.get? b=some o->b∉X.fs->b∉jq X.stack:=λb o e hb z=>by
  rcases List.mem_cons.mp (I.fP b z)with q|q;·have :=bA e;rw[q]at this;exact absurd this (Nat.not_lt.mpr I.ok.above)
  ·exact hb q
 have cellK:∀x c,X.env.cells.lookup x=some c->∀v,s.heap.IsCell c v->h'.IsCell c v:=λx c e v⟨o,g,hd⟩=>by obtain⟨sl,q⟩:=p.any g λz=>(hc c z).cel x c e rfl;exact⟨_,q,hd⟩
 refine⟨I.ok,I.os,I.bare,⟨λb o e n hb f=>?_,λb o e n hb f=>?_,λb o e n f=>I.base.free b o e n f,λb o e f=>?_,I.base.v9,I.base.uN,I.base.vq⟩,?_,λx c e=>?_,I.free,I.fF,λq hq=>?_,Qf I.bK p I.xG λb hb=>(hc b hb).un,I.len⟩;·exact p.keep b o (I.base.keep b o e n hb f) (w b o e hb) (h b o e)
 ·obtain⟨sl,e1⟩:=I.base.slot b o e n hb f;obtain⟨y,e2⟩:=p.any e1 (h b o e);exact⟨y,e2⟩
 ·obtain⟨o',e1⟩:=I.base.there b o e f;obtain⟨sl,e2⟩:=p.any e1 (h b o e);exact⟨_,e2⟩
 ·obtain⟨m,⟨o,es,ep,g,r⟩,hl⟩:=I.loc;obtain⟨sl,t⟩:=p.any g λz=>(hc _ z).loc rfl;refine⟨m,⟨_,es,ep,t,r⟩,λi x v e1 e2 e3=>?_⟩;obtain⟨u,r,l⟩:=hl i x v e1 e2 e3;refine⟨u,r,?_⟩;rcases l with l|⟨k,c,e,z⟩;·exact .inl l
  ·exact .inr ⟨k,c,e,cellK x c e _ z⟩
 ·obtain⟨v,z⟩:=I.cell x c e;exact⟨v,cellK x c e v z⟩
 ·obtain⟨e,n,ne,j,d⟩:=I.pin q hq;exact⟨p.keep q.1 q.2 e (λz=>(List.mem_cons.mp (I.fP q.1 z)).elim ne j) λz=>(hc q.1 z).pin q hq rfl,n,ne,j,d⟩
end
structure Fly(X:Cx)(pins:List (Addr×Obj))(H:Hp)(s:Shared)(a C T:Addr)(c fl:Value):Prop where
 ex:Ex s.heap a C (.ref T) c
 tb:Tb s.heap T fl
 ne:T≠a
 fa:Vt X pins H a
 fT:Vt X pins H T
noncomputable def c7(P:Program)(w:World):kL:=λhh outer H s E e s'=>∃(a C T:Addr)(c:Value)(H':Hp),e= .ref a/\s'.os=s.os/\AllBare s'.gens/\Un (jq outer) [] H H' s.heap s'.heap/\iK P w H' s'.heap/\Ex s'.heap a C (.ref T) c/\(hh=none->c= .none)/\Tb s'.heap T .none/\T≠a/\H' a=none/\H' T=none/\s.heap.get? a=none/\s.heap.get? T=none/\E (.ref C) none H'
section
variable{X:Cx}{pins:List (Addr×Obj)}{σ:L2.St}{H:Hp}{s s':Shared}{E:XK}{e:Value}{hh:Option Value}
theorem UC(I:Inv X pins σ H s)(d:X.ex=[])(h:c7 X.prog X.w hh X.stack H s E e s'):∃a C T c H',e= .ref a/\Inv X pins σ H' s'/\Fly X pins H' s' a C T c .none/\(hh=none->c= .none)/\E (.ref C) none H':=by obtain⟨a,C,T,c,H',rfl,os,bare,un,bK,ex,hc,tb,ne,g,f,fa,fT,q⟩:=h;refine⟨a,C,T,c,H',rfl,I.Ke os un bK bare (λb z=>absurd z (by simp)),⟨ex,tb,ne,pT I fa (by rw[d];simp) g,pT I fT (by rw[d];simp) f⟩,hc,q⟩
end
section
variable{P:Program}{w:World}{K:PySem.W.Frag}{mg:Str->Option Value}{base:Heap}{N:List Str}{qual:Str}{sc:Scope}{f:Addr}{cd:Value}{A:Around}{outer:List Env}{bV:Shared}{H₀:Hp}{E:XK}
theorem Nq{σ:L2.St}{H:Hp}{s:Shared}{pins:List (Addr×Obj)}{a C T:Addr}{c:Value}{h':Heap}{ch:List Addr}(I:Inv (dw (c7 P w) P w K mg base N qual sc f cd A outer bV H₀ E) pins σ H s)(p:Oe (jq (dw (c7 P w) P w K mg base N qual sc f cd A outer bV H₀ E).stack) ch s.heap h')(e:∀b∈ch,Vt (dw (c7 P w) P w K mg base N qual sc f cd A outer bV H₀ E) pins H b)(fa:Vt (dw (c7 P w) P w K mg base N qual sc f cd A outer bV H₀ E) pins H a)(ex:Ex h' a C (.ref T) c)(tb:Tb h' T .none)(d:s.heap.get? T=none)(ne:T≠a)(hc:A.handled=none->c= .none)(q:E (.ref C) none H):c7 P w A.handled outer H₀ bV E (.ref a) {s with heap:=h'}:=by have J:=Inv.stp I p e;exact⟨a,C,T,c,H,rfl,J.os,J.bare,J.base,J.bK,ex,hc,tb,ne,fa.un,uM I.bK d,fa.new,(pT (H':=H) I d (by show T∉[];simp) (uM I.bK d)).new,q⟩
theorem Wd{σ:L2.St}{H:Hp}{s:Shared}{pins:List (Addr×Obj)}{a C T:Addr}{c:Value}(I:Inv (dw (c7 P w) P w K mg base N qual sc f cd A outer bV H₀ E) pins σ H s)(F:Fly (dw (c7 P w) P w K mg base N qual sc f cd A outer bV H₀ E) pins H s a C T c .none)(hc:A.handled=none->c= .none)(q:E (.ref C) none H):(dw (c7 P w) P w K mg base N qual sc f cd A outer bV H₀ E).xe (.ref a) s:=by
 refine Es I.ok.frames I.stack rfl F.ex F.tb F.ne λh' i d e g h p=>?_;exact Nq (ch:=[a,T]) I p (λb hb=>by
  rcases List.mem_cons.mp hb with z|z;·rw[z];exact F.fa
  ·rw[List.mem_singleton.mp z];exact F.fT) F.fa d e g h hc q
theorem bc{N:List Str}:Passes (c7 P w) (dw (c7 P w) P w K mg base N qual sc f cd A outer bV H₀ E) E:=λpins σ H s e s' I h=>by obtain⟨a,C,T,c,H',rfl,J,F,hc,q⟩:=UC I rfl h;exact Wd J F hc q
theorem da{σ:L2.St}{H:Hp}{s:Shared}{pins:List (Addr×Obj)}{a C:Addr}{h':Heap}(I:Inv (dw (c7 P w) P w K mg base N qual sc f cd A outer bV H₀ E) pins σ H s)(m:MadeX s.heap h' a C A.handled)(q:E (.ref C) none H):(dw (c7 P w) P w K mg base N qual sc f cd A outer bV H₀ E).xe (.ref a) {s with heap:=h'}:=by have J:Inv (dw (c7 P w) P w K mg base N qual sc f cd A outer bV H₀ E) pins σ H {s with heap:=h'}:=I.kept (t':=s.toks) m.keeps;obtain⟨oe,vs,t,c,e1,e2,e3,e4,d,e,g⟩:=m.there;have fa:Vt (dw (c7 P w) P w K mg base N qual sc f cd A outer bV H₀ E) pins H a:=pT I m.new (by show a∉[];simp) (uM I.bK m.new);refine Ct J.ok.frames J.stack rfl ⟨oe,vs, .ref t,e1,e2,e3,e4,d,e⟩ λn l h i j k p=>?_;exact Nq (ch:=[a]) J p (λb hb=>by rw[List.mem_singleton.mp hb];exact fa) fa h i j k g q
theorem Dp{N:List Str}:PassesOwn (model P w) (dw (c7 P w) P w K mg base N qual sc f cd A outer bV H₀ E).A (dw (c7 P w) P w K mg base N qual sc f cd A outer bV H₀ E).env (dw (c7 P w) P w K mg base N qual sc f cd A outer bV H₀ E).xe:=PassesOwn.leaving
end
theorem Df.xV{P:Program}{w:World}{K:PySem.W.Frag}{mg:Str->Option Value}{x:Str}{st:Stmt}{N ps:List Str}{k:Nat}{sp:Sp}(D:Df K mg x st ps)(S:aC N ps (ai st))(len:∀vs H Q E,sp vs H Q E->vs.length=ps.length)(a:∀(base:Heap)(f:Addr)(bS:Value)(A:Around)(outer:List Env)(s:Shared)(H:Hp)(vs:List V)(Q:VK)(E:XK),bY k (A.deeper (envOfC x (ai st) s.heap.objs.size f bS))->sp vs H Q E->∃t,gR (dw (c7 P w) P w K mg base N x (ai st) f bS A outer s H E) (bu st) t/\t {nx:=λ_ H'=>Q .aO H',rt:=Q} (start N vs) H):bO P w K mg (c7 P w) x (k+1) ps sp:=by obtain⟨f,fd,F,m,b⟩:=D;refine⟨f,fd,λbase=>?_,m,F.kp,b⟩;obtain⟨oc,od,kV,doc,pm,an,bS,ct,A4,rfl,g,c⟩:=F.ex;exact B0 g c S len λA outer s H vs Q E d e=>a base f bS A outer s H vs Q E d e
section
variable{X:Cx}{pins:List (Addr×Obj)}{σ:L2.St}{H:Hp}{s:Shared}{a:Addr}{oe:Obj}{cm:Bool}
end
noncomputable abbrev TH:=Addr->Addr->TS
def PH(X:Cx)(b:List ExceptHandler)(t:TH):Prop:=∀(pins:List (Addr×Obj))(s:Shared)(σ:L2.St)(H:Hp)(D:Ends)(a C T:Addr)(c:Value),Inv X pins σ H s->Fly X pins H s a C T c .none->(X.A.handled=none->c= .none)->t C a D σ H->wpAny (model X.prog X.w) X.A (handleBy (.ref a) X.env b) (SP X pins D) X.xe s
section
variable{X:Cx}{cm:Bool}
noncomputable def D1(i:Nat)(D:Ends):Ends:={nx:=λσ H=>D.nx (σ.set i none) H,rt:=D.rt,bk:=λσ H=>D.bk (σ.set i none) H,ct:=λσ H=>D.ct (σ.set i none) H}
end
noncomputable abbrev TB:=Ends->(Addr->L2.St->Hp->Prop)->L2.St->Hp->Prop
def BX(X:Cx)(pins:List (Addr×Obj))(G:Addr->L2.St->Hp->Prop)(e:Value)(s':Shared):Prop:=∃(a C T:Addr)(c:Value)(b:L2.St)(H':Hp),e= .ref a/\Inv X pins b H' s'/\Fly X pins H' s' a C T c .none/\(X.A.handled=none->c= .none)/\G C b H'
def PB(X:Cx)(body:List Stmt)(t:TB):Prop:=∀(pins:List (Addr×Obj))(s:Shared)(σ:L2.St)(H:Hp)(D:Ends)(G:Addr->L2.St->Hp->Prop),Inv X pins σ H s->t D G σ H->wpAny (model X.prog X.w) X.A (execs body X.env) (SP X pins D) (BX X pins G) s
structure acN(K:PySem.W.Frag)(C:Addr):Prop where
 ga:PySem.W.findIn K (.ref C) "__getattribute__"=some (some (.builtin "BaseException.__getattribute__"))
 cl:PySem.W.findIn K (.ref C) "__class__"=some (some (.builtin "object.__class__"))
 gt:PySem.W.findIn K (.ref C) "__getattr__"=some none
 ob:PySem.W.mroIn K C (.type "object")=some true
 be:PySem.W.mroIn K C (.type "BaseException")=some true
 is:(PySem.W.clsIn K C).isSome=true
section
variable{prog:Program}{w:World}{A:Around}{E:Value->Shared->Prop}{h:Heap}{g:Array GenState}{d:Drawn}{t:Nat}{os:OsState}{a C:Addr}{o:Obj}{K:PySem.W.Frag}
end
section
variable{X:Cx}{pins:List (Addr×Obj)}{σ:L2.St}{H:Hp}{s:Shared}{a:Addr}{D:List (Str×V)}{k:Str}{tk:Tok}{A:Around}{E:Value->Shared->Prop}
theorem KJ{Q:Value->Shared->Prop}(T:iy X.K a D)(I:Inv X pins σ H s)(h:∀b,RelV ((KTD.datumAt k D).getD .aO) b->Q b {s with toks:=s.toks+1}):wpAny (model X.prog X.w) A (call (.builtin "dict.get") [.ref a, .str k tk]) Q E s:=by
 have ty:=T.typeIs I;refine jO PySem.F.slot_dict_get ty PySem.F.entry_dict_get ?_ (PySem.F.args_dict_get_2 _ _);show wpAny (model X.prog X.w) _ (dictGet a (.str k tk)>>=_) _ _ s;refine ao (sR T I (λv u e r=>?_) λhn=>?_);·have h:=h u (by rw[e];exact r);exact aU ⟨u,rfl,h⟩
 ·have h:=h .none (by rw[hn];exact rfl);refine ao ?_;unfold Builtin.Dict.missed;rw[T.sys];simp only[Bool.false_eq_true,if_false];exact aU (aU ⟨_,rfl,h⟩)
end
noncomputable def Vg(K:PySem.W.Frag)(td ty:TE):TE:=λσ H Q=>td σ H λx b=>∃a D,x= .ref a/\iy K a D/\ty σ b λy c=>∃k,y= .str k/\Q ((KTD.datumAt k D).getD .aO) c
theorem MU{X:Cx}{o e:Expr}{apos dy:Pos}{td ty:TE}(l:PE X o td)(j:PE X e ty)(m:M1 X o "get" apos e dy):PE X (.Call (.Attribute o "get" apos) [e] [] dy) (Vg X.K td ty):=by
 intro pins s σ H Q I h;refine wpAny_Call_method m.base m.Xl m.line PySem.F.plainAttrs_dict PySem.F.slot_dict_get PySem.F.type_dict_get (bH (l pins s σ H _ I h) λu s1 z=>?_);obtain⟨x,f,c,v,a,D,ex,T,n⟩:=z;subst ex;obtain rfl:u=Value.ref a:=v;have t1:=T.typeIs c;refine⟨t1,λb q=>?_,?_⟩;·cases q;obtain⟨o,_,_,e,x,_⟩:=T.ex;exact⟨o,c.gL a o e,x.2.1⟩
 rw[m.trees];refine Calls.callWith_builtin rfl (Calls.evalArgs_plain (Calls.spliced_cons (bH (j pins s1 σ f _ c n) λA s2⟨y,g,d,w,k,i,p⟩=>Calls.spliced_nil ?_)));subst i;obtain⟨t,rfl⟩:=w;exact KJ T d λB r=>⟨_,g,d.tok _,r,p⟩
theorem wZ{P:Program}{w:World}{X:Cx}:Passes (c7 P w) X E0:=λ_ _ _ _ _ _ _ h=>by obtain⟨a,C,T,c,H',_,_,_,_,_,_,_,_,_,_,_,_,_,q⟩:=h;exact q.elim
noncomputable def XI(K:PySem.W.Frag)(a:Addr):It:=⟨λi H=>∃xs x,bI K H a xs/\xs[i]?=some x,λi H v H'=>∃p x,v= .ref p/\H p=none/\H'=upd H p (.tup [.int i,x])/\∀xs,bI K H a xs->xs[i]?=some x,λi H=>∃xs,bI K H a xs/\xs.length=i⟩
structure abZ(a e it:Addr)(i:Nat)(h:Heap):Prop where
 e:∃old,IsEnum h e it i old
 it:h.IsListIter it a i
theorem IF{P:Program}{w:World}{K:PySem.W.Frag}{es:List Expr}{k:Nat}{U:Pos}(a n:Nat):Turn P w K (.Tuple es k U) (XI K a) [n+1,n] (n+1) (abZ a (n+1) n)where
 mem:=by simp
 obj:=λi h st c hc=>by
  simp only[gF,jr,or_false]at hc;obtain⟨old,e0⟩:=st.e;obtain⟨u,e1,_,L⟩:=st.it;rcases hc with rfl|rfl;·exact⟨_,e0,λv q=>by cases q⟩
  ·exact⟨u,e1,λv q=>by rw[L]at q;cases q⟩
 keep:=λi h h' st kp=>by obtain⟨old,e0⟩:=st.e;obtain⟨u,e1,Y⟩:=st.it;exact⟨⟨old,kp _ (by simp) _ e0⟩,⟨u,kp _ (by simp) _ e1,Y⟩⟩
 item:=by
  intro X p hw m hc i pins s σ H E I b st t;subst p hw m;obtain⟨xs,x,j,F⟩:=t;obtain⟨g,B,y,_⟩:=I.list j;obtain⟨C,D,OQ⟩:=B.get F;obtain⟨old,e0⟩:=st.e;have G:=bA e0;have O:i<g.toArray.size:=by rw[cE];exact(List.getElem?_eq_some_iff.mp D).1
  have l:∀d∈[n+1,n],a≠d:=λd hd=>nR I j (b d hd);have R:∀d∈[n+1,n],d∉k_ X.A.in1:=λd hd z=>I.MO hc (b d hd).2.2.2.1 (b d hd).2.2.2.2.2 d (mi z) rfl;have r:∀d∈[n+1,n],∀a,X.A.in1.handled=some (.ref a)->a≠d:=λd hd=>I.MO hc (b d hd).2.2.2.1 (b d hd).2.2.2.2.2;have N:n+1∉(n::a::k_ X.A.in1):=by simp only[gF,not_or];exact⟨by lia,Ne.symm (l (n+1) (by simp)),R (n+1) (by simp)⟩
  refine wpAny_pyNext_enum_itemD (gK n a (l n (by simp)) (r n (by simp)) g.toArray) e0 ⟨st.it,y.isList,I.hb hc⟩ O (Nat.succ_ne_self n) N λJ h1 tk ex z1 s1 V sz kp=>?_;have ex:g.toArray[i]?=some J:=ex;have ex:C=J:=by rw[List.getElem?_toArray,D]at ex;exact Option.some.inj ex
  subst ex;refine⟨_,rfl,wpAny_letOwnedTupleGo_enum (s:={s with heap:=h1,toks:=tk+1}) z1 λh2 z2 sb=>?_⟩;have lt:∀d∈[n+1,n],d<s.heap.objs.size:=λd hd=>by
   have :d<=n+1:=by simp at hd;lia
   exact Nat.lt_of_le_of_lt this G
  have up:∀c o,c≠n+1->h1.get? c=some o->h2.get? c=some o:=λc o f e=>(sb.2 c f).trans e;have W:h2.get? s.heap.objs.size=some {cls:= .type "tuple",data:= .seq #[.int i tk,C]}:=up _ _ (Nat.ne_of_gt G) V;refine⟨.ref s.heap.objs.size,_,wz (s:=s) (h':=h2) (t':=tk+1) (ch:=[n+1,n]) (T:=s.heap.objs.size) (o:= .tup [.int i,x]) I (λc o f e=>?_) b (bf _) ?_,rfl,⟨_,x,rfl,I.bK.fresh (bf _),rfl,λxs' a1=>?_⟩,?_,λd hd=>?_⟩;·simp only[gF,jr,or_false,not_or]at f;exact up c o f.1 (kp c o f.1 f.2 e)
  ·exact⟨(gZ rfl),[.int i tk,C], .cons ⟨tk,rfl⟩ (.cons OQ .nil),⟨_,W,rfl,_,rfl⟩⟩
  ·rw[I.i8 a1 j];exact F
  ·obtain⟨⟨S,M,Z⟩,_⟩:=s1;refine⟨⟨_,by simpa using z2⟩,⟨S,up _ _ (by lia) M,Z⟩⟩
  ·rw[aI (cW (lt d hd))];exact(b d hd).1
 done:=by
  intro X p hw m hc i pins s σ H E I b st t;subst p hw m;obtain⟨xs,j,hl⟩:=t;obtain⟨g,B,y,_⟩:=I.list j;obtain⟨old,e0⟩:=st.e;have l:∀d∈[n+1,n],a≠d:=λd hd=>nR I j (b d hd);have r:∀d∈[n+1,n],∀a,X.A.in1.handled=some (.ref a)->a≠d:=λd hd=>I.MO hc (b d hd).2.2.2.1 (b d hd).2.2.2.2.2;have hi:g.toArray.size=i:=by rw[cE,<-B.length];exact hl
  subst hi;refine wpAny_pyNext_enum_endD (gK n a (l n (by simp)) (r n (by simp)) g.toArray) e0 ⟨st.it,y.isList,I.hb hc⟩ λh1 kp=>⟨rfl,?_⟩;refine Gz (t':=s.toks) (ch:=[n+1,n]) I (λc o f e=>?_) b;simp only[gF,jr,or_false,not_or]at f;exact kp c o f.2 e
 self:=λA i s Q E st h=>by obtain⟨old,e0⟩:=st.e;exact wpAny_pyIter_enum e0 h
noncomputable def abi(K:PySem.W.Frag)(c:TA):TI:=λσ H R=>c σ H λvs b=>∃a xs,vs=[.ref a]/\bI K b a xs/\R (XI K a) b
theorem L1{X:Cx}{es:List Expr}{k:Nat}{w:Pos}{a:Expr}{g:TA}{p f:Pos}(l:Gl X "enumerate")(hm:X.mg "enumerate"=none)(ha:PA X [a] g)(m:starEach [a] X.env=[(false,eval a X.env)]:=by rfl):PI X (.Tuple es k w) (.Call (.Name "enumerate" p) [a] [] f) (abi X.K g):=by
 intro pins s σ H R I h;refine Call_ (iR I l hm boot_enumerate (PyProof.Rows.callWith_type1 (bH (ha f pins s σ H _ I h) λus s1⟨vs,c,b,t,r⟩=>?_) (by rw[m];rfl) (by rfl)));obtain⟨a1,xs,e,n,q⟩:=r;subst e;obtain⟨A,rfl,u⟩:=Vals.one t;cases u;obtain⟨x,y,o,_⟩:=b.list n;refine call_enumerate_list o.isList λh1 i v sz kp=>?_;refine wpAny_pyIter_enum (s:={s1 with heap:=h1}) i ?_;have j:Inv X pins σ c {s1 with heap:=h1}:=b.kept (t':=s1.toks) kp;refine⟨_,_,_,_,c,rfl,j,IF a1 s1.heap.objs.size,⟨⟨_,i⟩,v⟩,λd hd=>?_,q⟩;have :s1.heap.objs.size<=d:=by simp only[gF,jr,or_false]at hd;rcases hd with z|z<;>rw[z]<;>first|exact Nat.le_add_right _ _|exact bf _
 exact b.EV this (b.bK.fresh this)
theorem iG{CX:kL}{P:Program}{w:World}{K:PySem.W.Frag}{mg:Str->Option Value}{base:Heap}{N:List Str}{qual:Str}{scope:Scope}{f:Addr}{cd:Value}{A:Around}{outer:List Env}{s:Shared}{H:Hp}{E:XK}:(dw CX P w K mg base N qual scope f cd A outer s H E).Gw.K=K:=rfl
end L3
end
section
namespace L3
open PySem L2
theorem pG{t1 t2:TS}{D:Ends}{σ:L2.St}{H:Hp}(h:let a:Ends:=D;let b:TS:=t2;cg t1 b a σ H):(cg t1 (t2)) D σ H:=h
theorem xD{t1 t2 a:TS}{D:Ends}{σ:L2.St}{H:Hp}(h:let b:Ends:=D;let d:TS:=a;let c:TS:=cg t2 d;cg t1 c b σ H):(cg t1 (cg t2 (a))) D σ H:=h
theorem JK{t1 t2 a t4:TS}{D:Ends}{σ:L2.St}{H:Hp}(h:let b:Ends:=D;let e:TS:=t4;let d:TS:=cg a e;let c:TS:=cg t2 d;cg t1 c b σ H):(cg t1 (cg t2 (cg a (t4)))) D σ H:=h
theorem aai{t1 t2 a t4 b:TS}{D:Ends}{σ:L2.St}{H:Hp}(h:let c:Ends:=D;let g:TS:=b;let f:TS:=cg t4 g;let e:TS:=cg a f;let d:TS:=cg t2 e;cg t1 d c σ H):(cg t1 (cg t2 (cg a (cg t4 (b))))) D σ H:=h
theorem aaB{t1 t2 a t4 b c:TS}{D:Ends}{σ:L2.St}{H:Hp}(h:let d:Ends:=D;let j:TS:=c;let i:TS:=cg b j;let g:TS:=cg t4 i;let f:TS:=cg a g;let e:TS:=cg t2 f;cg t1 e d σ H):(cg t1 (cg t2 (cg a (cg t4 (cg b (c)))))) D σ H:=h
theorem abC{t1 t2 a t4 b c d:TS}{D:Ends}{σ:L2.St}{H:Hp}(h:let e:Ends:=D;let l:TS:=d;let k:TS:=cg c l;let j:TS:=cg b k;let i:TS:=cg t4 j;let g:TS:=cg a i;let f:TS:=cg t2 g;cg t1 f e σ H):(cg t1 (cg t2 (cg a (cg t4 (cg b (cg c (d))))))) D σ H:=h
end L3
end
section
namespace KM
end KM
end
section
namespace L3
open PySem L2
theorem by0{P:List Value->Prop}(h:P []):∀us:List Value,us.length=0->P us:=λus e=>by rw[List.length_eq_zero_iff.mp e];exact h
theorem byS{P:List Value->Prop}{n:Nat}(h:∀a us,us.length=n->P (a::us)):∀us:List Value,us.length=n+1->P us|[],e=>nomatch e|a::us,e=>h a us (Nat.succ.inj e)
theorem jf{P:List Value->Prop}(h:∀a,P [a]):∀us:List Value,us.length=1->P us:=byS λa=>by0 (h a)
theorem EE{P:List Value->Prop}(h:∀a b,P [a,b]):∀us:List Value,us.length=2->P us:=byS λa=>jf (h a)
theorem JV{P:List Value->Prop}(h:∀a b c,P [a,b,c]):∀us:List Value,us.length=3->P us:=byS λa=>EE (h a)
theorem by4{P:List Value->Prop}(h:∀a b c d,P [a,b,c,d]):∀us:List Value,us.length=4->P us:=byS λa=>JV (h a)
def cJ(K:PySem.W.Frag)(x:Str)(st:Stmt):Prop:=∃(f:Addr)(od an:Option Addr)(sl:Array (Option Value))(oc kV dc pm cd ct:Value),PySem.W.nsIn K mainGlobals x=some (some (.ref f))/\K.lookup f=some ⟨oc,od, .func (PySem.W.fnOf x x (cS st) (bu st) (ai st) .none kV dc pm an cd ct),sl⟩/\PySem.W.codeIn K cd x=true/\PySem.W.keepIn K (.ref f)=true
theorem dfi{K:PySem.W.Frag}{x:Str}{st:Stmt}{f:Addr}{od an:Option Addr}{sl:Array (Option Value)}{oc kV dc pm cd ct:Value}(a:PySem.W.nsIn K mainGlobals x=some (some (.ref f)))(l:K.lookup f=some ⟨oc,od, .func (PySem.W.fnOf x x (cS st) (bu st) (ai st) .none kV dc pm an cd ct),sl⟩)(c:PySem.W.codeIn K cd x=true)(k:PySem.W.keepIn K (.ref f)=true):cJ K x st:=⟨f,od,an,sl,oc,kV,dc,pm,cd,ct,a,l,c,k⟩
theorem cJ.df{K:PySem.W.Frag}{h:Heap}{mg:Str->Option Value}{x:Str}{st:Stmt}{ps:List Str}(D:cJ K x st)(X:K.In h)(G:h.Ns mainGlobals mg)(b:∀(kV doc pm:Value)(an:Option Addr)(bS ct:Value)(us:List Value),us.length=ps.length->bindArgs (PySem.W.fnOf x x (cS st) (bu st) (ai st) .none kV doc pm an bS ct) ⟨us,[]⟩=pure (ps.zip us)):Df K mg x st ps:=by obtain⟨f,od,an,sl,oc,kV,dc,pm,cd,ct,a,l,c,k⟩:=D;exact⟨f,_,eZ l c k,PySem.W.mg_of X G a,(eZ l c k).binds b⟩
end L3
end
theorem L2.bY.m{j k:Nat}{A:PySem.Around}(r:L2.bY k A)(h:j<=k:=by first|decide|lia):L2.bY j A:=r.mono h
section
namespace K62
open PySem L2 L3 KM
noncomputable def top(i:Nat):Stmt:=PySem.Challenge.pw_keeper_k62_sums_and_products.main.body.getD i (.Pass ⟨0,0,0,0⟩)
noncomputable abbrev gu:Stmt:=top 17
noncomputable abbrev gW:Stmt:=top 18
noncomputable abbrev gH:Stmt:=top 19
noncomputable abbrev jI:Stmt:=top 20
noncomputable abbrev fW:Stmt:=top 21
noncomputable abbrev cC:Stmt:=top 22
noncomputable abbrev jE:Stmt:=top 23
noncomputable abbrev jy:Stmt:=top 24
noncomputable abbrev fL:Stmt:=top 26
noncomputable abbrev jx:Stmt:=top 31
noncomputable abbrev eN:Stmt:=top 32
noncomputable abbrev eX:Stmt:=top 33
noncomputable abbrev il:Stmt:=top 34
noncomputable abbrev jC:Stmt:=top 35
noncomputable abbrev fw:Stmt:=top 36
noncomputable abbrev gp:Stmt:=top 37
noncomputable abbrev gg:Stmt:=top 38
noncomputable abbrev lO:Stmt:=top 41
noncomputable abbrev mO:Stmt:=top 43
noncomputable abbrev ir:Stmt:=top 44
noncomputable abbrev dW:Stmt:=top 45
noncomputable abbrev jH:Stmt:=top 46
noncomputable abbrev dI:Stmt:=top 48
noncomputable abbrev js:Stmt:=top 49
noncomputable abbrev iV:Stmt:=top 50
noncomputable abbrev jA:Stmt:=top 53
noncomputable abbrev e9:Stmt:=top 54
noncomputable abbrev fj:Stmt:=top 55
noncomputable abbrev ju:Stmt:=top 56
noncomputable abbrev dX:Stmt:=top 57
noncomputable abbrev lh:Stmt:=top 59
noncomputable abbrev lu:Stmt:=top 60
noncomputable abbrev dD:Stmt:=top 62
noncomputable abbrev dN:Stmt:=top 63
noncomputable abbrev fk:Stmt:=top 64
noncomputable abbrev GN:Stmt:=top 65
noncomputable abbrev cG:Stmt:=inClass (top 30) 0
noncomputable abbrev bw:Stmt:=inClass (top 30) 1
noncomputable abbrev bN:Stmt:=inClass (top 30) 2
noncomputable abbrev cH:Stmt:=inClass (top 30) 3
noncomputable abbrev bW:Stmt:=inClass (top 30) 4
structure wQ where
 none_:Unit:=()
 g7:Addr
 iY:Addr
 eV:Addr
 QS:Addr
 HY:Addr
 cw:Addr
 bP:Addr
 iX:Addr
 Xn:Addr
 bp:Addr
 Form:Addr
structure Mg(mg:Str->Option Value)(t:wQ):Prop where
 SM:mg "all"=none
 E6:mg "bool"=none
 Cj:mg "enumerate"=none
 F_:mg "int"=none
 cn:mg "isinstance"=none
 cK:mg "len"=none
 UW:mg "list"=none
 Ru:mg "max"=none
 lR:mg "range"=none
 EX:mg "reversed"=none
 Ti:mg "str"=none
 lT:mg "tuple"=none
 aaJ:mg "zip"=none
 g_MOST_KNOTS:∃tk,mg "MOST_KNOTS"=some (.int 600 tk)
 g_MOST_DEEP:∃tk,mg "MOST_DEEP"=some (.int 40 tk)
 g_MOST_VARIABLE:∃tk,mg "MOST_VARIABLE"=some (.int 99 tk)
 g_MOST_LETTERS:∃tk,mg "MOST_LETTERS"=some (.int 12 tk)
 g_LETTERS:∃tk,mg "LETTERS"=some (.str "abcdefghijklmnopqrstuvwxyz" tk)
 g_KIND_WORDS:mg "KIND_WORDS"=some (.ref t.g7)
 g_KIDS_DUE:mg "KIDS_DUE"=some (.ref t.iY)
 g_BINDER_OVER:mg "BINDER_OVER"=some (.ref t.eV)
 g_FIGURES:∃tk,mg "FIGURES"=some (.str "0123456789" tk)
 g_MOST_FIGURE:∃tk,mg "MOST_FIGURE"=some (.int 39 tk)
 g_TOLD:mg "TOLD"=some (.ref t.QS)
 g_RULES:mg "RULES"=some (.ref t.HY)
 g_Great:mg "Great"=some (.ref t.cw)
 g_NoPlace:mg "NoPlace"=some (.ref t.bP)
 g_NoStep:mg "NoStep"=some (.ref t.iX)
 g_Dry:mg "Dry"=some (.ref t.Xn)
 g_NoText:mg "NoText"=some (.ref t.bp)
 g_Form:mg "Form"=some (.ref t.Form)
seal L2.PE L2.PS L2.gR L2.PT L2.PW L2.PA L2.PG L2.zI L2.PI L2.PC L2.PO L2.E_ L2.PK L3.zD
variable{P:Program}{w:World}{K:PySem.W.Frag}{mg:Str->Option Value}{base:Heap}{f:Addr}{fd:FuncData}
noncomputable def cM(ns:List Int)(k:Nat):Int:=(ns[k]?).getD 0
def Em(K:PySem.W.Frag):Sp:=λvs H Q _=>∃(a:Addr)(ns:List Int)(k:Nat),vs=[.ref a, .int k]/\bI K H a (ns.map V.int)/\Q (.int (cM ns k)) H
theorem Vf:aC ["_law_script","_law_k"] ["_law_script","_law_k"] (ai dD):=⟨rfl,rfl,rfl,by decide+kernel,rfl,by decide+kernel,by decide+kernel⟩
theorem PM(F:Om K "_law_cell_at" "_law_cell_at" dD f fd)(i:mg "len"=none):nA P w K mg base b_ 1 f fd ["_law_script","_law_k"] (Em K):=by
 refine F.ok Vf (λvs H Q E h=>?_) (λbS A outer s H vs Q E j h=>?_);·obtain⟨a,ns,k,rfl,_⟩:=h;rfl
 obtain⟨a,ns,k,rfl,g,q⟩:=h;refine⟨_,aj (bj (aG Hs (pv 1) (aM aF rfl i PySem.boot_len (aa (pv 0) ah)) (aJ _)) (ak (aB (aZ eO (pv 0) (pv 1) (λ_ _=>rfl)))) aK) (ak (aB au)),?_⟩;refine⟨_,rfl,_,rfl,a,_,rfl, .inl g,_,_,rfl,rfl,_,rfl,?_⟩;have hl:(ns.map V.int).length=ns.length:=cy _;refine a_ (λc=>?_) (λc=>?_)
 ·have d:(k:Int)<(((ns.map V.int).length:Nat):Int):=of_decide_eq_true c;have b:k<ns.length:=by rw[hl]at d;omega
  have e:cM ns k=ns[k]:=by unfold cM;simp[b]
  rw[e]at q;exact⟨_,rfl,_,rfl,a,_,_,_,rfl,rfl,g,aH (by rw[ny,dR b]<;>rfl),q⟩
 ·have d:¬(k:Int)<(((ns.map V.int).length:Nat):Int):=of_decide_eq_false (Bool.eq_false_iff.mpr c);have b:ns.length<=k:=by rw[hl]at d;omega
  have e:cM ns k=0:=by unfold cM;rw[List.getElem?_eq_none b];rfl
  rw[e]at q;exact q
variable{P:Program}{w:World}{K:PySem.W.Frag}{mg:Str->Option Value}{base:Heap}{f:Addr}{fd:FuncData}
noncomputable def Z9:List (Key×V):=[(.inr "nat", .str ""),(.inr "none", .str ""),(.inr "zero", .str ""),(.inr "all", .str "kk"),(.inr "some", .str "kk"),(.inr "same", .str "ktt"),(.inr "fun", .str "kt"),(.inr "app", .str "tt")]
noncomputable def Zm:List (Key×V):=[(.inr "next", .str "t"),(.inr "rec", .str "kttt"),(.inr "like", .str "kt"),(.inr "carry", .str "ktt"),(.inr "never", .str "kt"),(.inr "pair", .str "ktt"),(.inr "first", .str "t")]
noncomputable def YL:List (Key×V):=[(.inr "second", .str "t"),(.inr "var", .str "n"),(.inr "name", .str "w")]
noncomputable def du(x:Str):V:=match d9 Z9 (Sum.inr x:Key)with|some v=>v|none=>match d9 Zm (Sum.inr x:Key)with|some v=>v|none=>(d9 YL (Sum.inr x:Key)).getD .aO
noncomputable def dZ(w:Str):Bool:=Xu (.str w) [.str "nat", .str "none", .str "all", .str "some", .str "same"]
noncomputable def jP:D->Bool| .int i=>decide (0<=i)|_=>false
mutual noncomputable def bz(nm:D->Bool)(k:Bool):D->Bool
 | .tup (.str w::ps)=>match du w with| .str s=>(dZ w==k)&&eK nm s.cps.toList ps|_=>false
 |_=>false noncomputable def eK(nm:D->Bool):List Nat->List D->Bool|[],[]=>true|c::cs,p::ps=>(if c=107 then bz nm true p else if c=116 then bz nm false p else if c=110 then jP p else nm p)&&eK nm cs ps|_,_=>false end
noncomputable def eE(a:D->Bool)(c:Nat)(p:D):Bool:=if c=107 then bz a true p else if c=116 then bz a false p else if c=110 then jP p else a p
theorem aP(a:D->Bool)(c:Nat)(cs:List Nat)(p:D)(ps:List D):eK a (c::cs) (p::ps)=(eE a c p&&eK a cs ps):=by rw[eK];rfl
theorem jn{a:D->Bool}{k:Bool}{w s:Str}{ps:List D}(h1:du w= .str s)(h2:dZ w=k)(h3:eK a s.cps.toList ps=true):bz a k (.tup (.str w::ps))=true:=by rw[bz,h1];simp[h2,h3]
theorem fA:du "var"= .str "n":=by decide+kernel
theorem fQ:du "name"= .str "w":=by decide+kernel
theorem Dd:dZ "var"=false:=by decide+kernel
theorem IG:dZ "name"=false:=by decide+kernel
theorem CM:(Str.ofString "n").cps.toList=[110]:=by decide+kernel
theorem Gr:(Str.ofString "w").cps.toList=[119]:=by decide+kernel
theorem Pw{a:D->Bool}{y:Str}(h:a (.str y)=true):bz a false (.tup [.str "name", .str y])=true:=by refine jn fQ IG ?_;rw[Gr,aP];simp[eE,h,eK]
variable{P:Program}{w:World}{K:PySem.W.Frag}{mg:Str->Option Value}{base:Heap}{f fN fM fS:Addr}{fd fdN fdM fdS:FuncData}
noncomputable def w0(k:Bool):Str:=if k then"nat"else"var"
variable{t:wQ}
end K62
end
section
namespace L3
open PySem PySem.Spec PyProof.Rows L2 KM
theorem MV{prog:Program}{w:World}{A:Around}{E:Value->Shared->Prop}{s:Shared}{t b:Addr}{ws:List Value}{Q:Value->Shared->Prop}(ht:IsTup s.heap t (([]:List Value)).toArray)(hb:IsTup s.heap b ws.toArray)(h1:Q (.ref b) s):wpAny (model prog w) A (binaryOp .Add (.ref t) (.ref b)) Q E s:=by obtain⟨⟨cls,f,data,sl⟩,d,hc,n,hd⟩:=id ht;obtain⟨⟨j,g,data2,i⟩,e,a,h,c⟩:=id hb;simp only at hc hd a c;subst hc hd a c;exact concat_meets ⟨_,d,rfl⟩ ⟨_,e,rfl⟩ noFill_tuple_add seq_tuple_add PySem.F.slot_tuple_add PySem.F.entry_tuple_add (PySem.F.args_tuple_add_2 _ _) (tuple_addW0 t b _ ws.toArray n h f g sl i (by simp)) ⟨d,e,h1⟩
noncomputable def aaR(K:PySem.W.Frag):R2:=λx y H Q=>∃a b xs ys,x= .ref a/\y= .ref b/\bQ K H a xs/\bQ K H b ys/\xs.length+ys.length<=sizeLine/\(xs=[]->Q (.ref b) H)/\(xs≠[]->ys=[]->Q (.ref a) H)/\(xs≠[]->ys≠[]->∀p,H p=none->Q (.ref p) (upd H p (.tup (xs++ys))))
theorem Qg{X:Cx}:mf X (binaryOp .Add) (aaR X.K):=by
 intro pins s σ H x y v u Q I d f h;obtain⟨a,b,xs,ys,rfl,rfl,ha,hb,g,k,l,m⟩:=h;by_cases c:xs=[];·cases d;cases f;subst c;obtain⟨its,n,i,_⟩:=I.tuple ha;obtain⟨o,p,j,_⟩:=I.tuple hb;have e:its=[]:=n.sG.mpr rfl;subst e;exact MV i j ⟨.ref b,H,I,rfl,k rfl⟩
 ·exact Qu pins s σ H _ _ v u Q I d f ⟨a,b,xs,ys,rfl,rfl,ha,hb,c,g,l c,m c⟩
theorem PX.imp{X:Cx}{r a:V->Option Int->Option Int->Hp->VK->Prop}(h:PX X r)(i:∀x lo hi H Q,a x lo hi H Q->r x lo hi H Q):PX X a:=by intro a1 a2 a3 a4 a5 a6 a7 a8 a9 b c d e;intros;apply h<;>first|assumption|(apply i;assumption)
noncomputable def abd:V->Option Int->Option Int->Hp->VK->Prop:=λx lo hi H Q=>∃a xs,x= .ref a/\H a=some (.tup xs)/\∀b H',ay H H'->H' b=some (.tup (iZ xs lo hi))->Q (.ref b) H'
theorem GO{X:Cx}:PX X abd:=PX.imp Ha λx lo hi H Q⟨a,xs,e,h,q⟩=>⟨a,xs,e,bQ.of h,λp b=>q p _ (av b _) aq,λz=>q a H (ay.refl H) (by rw[z];exact h)⟩
noncomputable def aaX:R2:=λx y H Q=>∃a b xs ys,x= .ref a/\y= .ref b/\H a=some (.tup xs)/\H b=some (.tup ys)/\xs.length+ys.length<=sizeLine/\∀p H',ay H H'->H' p=some (.tup (xs++ys))->Q (.ref p) H'
theorem s_{X:Cx}:mf X (binaryOp .Add) aaX:=by
 intro pins s σ H x y v u Q I f g h;obtain⟨a,b,xs,ys,rfl,rfl,ha,hb,d,q⟩:=h;refine Qg pins s σ H _ _ v u Q I f g ⟨a,b,xs,ys,rfl,rfl,bQ.of ha,bQ.of hb,d,λe=>?_,λ_ e=>?_,λ_ _ p c=>q p _ (av c _) aq⟩;·subst e;exact q b H (ay.refl H) hb
 ·subst e;exact q a H (ay.refl H) (by rw[gc];exact ha)
mutual theorem Rep.vO{H:Hp}{p:Addr}{xs:List V}{o:HO}(h:H p=some (.lst xs)):∀{d:D}{v:V},Rep H d v->Rep (upd H p o) d v| .aO,_,r=>r| .bl _,_,r=>r| .int _,_,r=>r| .str _,_,r=>r| .tup _,_,⟨a,vs,e,q,r⟩=>⟨a,vs,e,by rw[aI (TL q h (by simp))];exact q,bg.vO h r⟩theorem bg.vO{H:Hp}{p:Addr}{xs:List V}{o:HO}(h:H p=some (.lst xs)):∀{ds:List D}{vs:List V},bg H ds vs->bg (upd H p o) ds vs|[],_,r=>r|_::_,_,⟨v,r,e,q,t⟩=>⟨v,r,e,Rep.vO h q,bg.vO h t⟩end
theorem IA{J:It}{p:Addr}{h:Hp}{g:TG}{s:TE}{b:L2.St}{C:Hp->Prop}(n:Nat)(f:Nat->D)(r:h p=none)(hn:n<=sizeLine)(w:∀i a,i<n->ay h a->J.go i a/\∀x d,J.vB i a x d->∀(R:V->Hp->Prop),(∀v e,ay a e->Rep e (f i) v->R v e)->g x b d λl o=>s l o R)(hd:∀c a,ay h a->a p=some (.lst c)->bg a ((List.range n).map f) c->J.stop n a/\C a):∃W:Nat->Nat->List V->Hp->Prop,(∃m,W 0 m [] (upd h p (.lst [])))/\∀i m c a,W i m c a->(J.stop i a/\C a)\/(J.go i a/\∀x d,J.vB i a x d->g x b d λl o=>EO l o λok q=>if ok=true then s l q λv e=>e p=some (.lst c)/\c.length<sizeLine/\∃j,j<m/\W (i+1) j (c++[v]) (upd e p (.lst (c++[v])))else∃j,j<m/\W (i+1) j c q):=by
 refine mC (Q:=λ_ H=>C H) n (λi c a=>bg a ((List.range i).map f) c/\a p=some (.lst c)/\ay h a) ⟨rfl,aq,av r _⟩ ?_ ?_;·rintro i c a hi⟨rr,h2,s2⟩;obtain⟨t,u⟩:=w i a hi s2;refine⟨t,λx d y=>?_⟩;simp only[EO,if_true];have hl:=rr.length;rw[cy,List.length_range]at hl;refine u x d y _ λv e k z=>⟨k _ _ h2,by lia,nx hi ⟨?_,aq,gS (s2.trans k) r⟩⟩;rw[List.range_succ,List.map_append];exact((rr.mono k).vO (k _ _ h2)).append (bg.one (z.vO (k _ _ h2)))
 ·rintro c a⟨rr,h2,s2⟩;exact hd c a s2 h2 rr
end L3
end
section
namespace L3
open PySem PySem.Spec PyProof.Rows L2
end L3
end
section
namespace L3
open PySem PySem.Spec PyProof.Rows L2 KM
theorem JO{J:It}{p:Addr}{h:Hp}{g:TG}{w:TE}{b:L2.St}{C:Hp->Prop}(n:Nat)(B:Nat->Int->Prop)(t:h p=none)(hn:n<=sizeLine)(E:∀i a,i<n->ay h a->J.go i a/\∀x d,J.vB i a x d->∀(R:V->Hp->Prop),(∀(z:Int)f,ay a f->B i z->R (.int z) f)->g x b d λl o=>w l o R)(hd:∀(ns:List Int)a,ay h a->ns.length=n->(∀(i:Nat)(z:Int),ns[i]?=some z->B i z)->a p=some (.lst (ns.map V.int))->J.stop n a/\C a):∃W:Nat->Nat->List V->Hp->Prop,(∃m,W 0 m [] (upd h p (.lst [])))/\∀i m c a,W i m c a->(J.stop i a/\C a)\/(J.go i a/\∀x d,J.vB i a x d->g x b d λl o=>EO l o λok s=>if ok=true then w l s λv f=>f p=some (.lst c)/\c.length<sizeLine/\∃k,k<m/\W (i+1) k (c++[v]) (upd f p (.lst (c++[v])))else∃k,k<m/\W (i+1) k c s):=by
 refine mC (Q:=λ_ H=>C H) n (λi c a=>∃ns:List Int,c=ns.map V.int/\ns.length=i/\(∀(j:Nat)(z:Int),ns[j]?=some z->B j z)/\a p=some (.lst c)/\ay h a) ⟨[],rfl,rfl,λj z e=>by simp at e,aq,av t _⟩ ?_ ?_
 ·rintro i c a hi⟨ns,rfl,hl,r,h2,s2⟩;obtain⟨A,D⟩:=E i a hi s2;refine⟨A,λx d y=>?_⟩;simp only[EO,if_true];refine D x d y _ λz f u G=>⟨u _ _ h2,by rw[cy];lia,nx hi ⟨ns++[z],by simp,by simp[hl],λj y e=>?_,aq,gS (s2.trans u) t⟩⟩;by_cases F:j<ns.length;·rw[DM F]at e;exact r j y e
  ·rw[List.getElem?_append_right (by lia)]at e;have :j-ns.length=0:=by
    by_cases q:j-ns.length=0;·exact q
    ·rw[List.getElem?_eq_none (by simp;lia)]at e;cases e
   rw[this]at e;simp at e;subst e;have :j=i:=by lia
   rw[this];exact G
 ·rintro c a⟨ns,rfl,hl,r,h2,s2⟩;exact hd ns a s2 hl r h2
end L3
end
section
namespace L3
open PySem PySem.Spec PyProof.Rows L2
theorem Pn{X:Cx}{ix:Nat}{x:Str}{pos' apos:Pos}{tg iter G:Expr}{K:List Expr}{scope:Scope}{pos:Pos}{wi:TI}{g:TG}{tt:TT}{te:TE}{N':List Str}{own:Nat}{fr:List Nat}(hN:X.N.Nodup)(hix:X.N[ix]?=some x)(hlx:X.env.scope.names.lookup x=some .local)(hc:X.calm=true)(S:l0 X N' own fr scope)(hi:PI X tg iter wi)(ho:Own own g)(hg:∀E B fp,PG (dr X N' scope E B fp) tg g)(hf:∀E B fp,zD (dr X N' scope E B fp) K tt)(he:∀E B fp,PE (dr X N' scope E B fp) G te)(hsw:swapsWithSole [.Name x pos'] (.ListComp G [⟨tg,iter,K,0⟩] scope pos) apos.line X.env=pure true:=by rfl)(hs:∀x,foldedSetIterable iter X.env x=pure x:=by intro _;rfl):PS X (.Assign [.Name x pos'] (.ListComp G [⟨tg,iter,K,0⟩] scope pos) apos) (Oz (RH own fr wi g tt te) (kx ix)):=by
 intro pins s σ H D I h;have J2:∀x∈scope.names,x.2= .free->∃c,X.env.cells.lookup x.1=some c:=λx hx e=>I.ok.has x.1 (S.free x hx e);rw[exec_Assign_arm];refine ao (wpAny_standAt (ao (wpAny_of_eq hsw ?_)));rw[if_pos rfl,arm_evalThenUse_ListComp];refine ao (ao (f_ (Q:=λ_ s'=>SP X pins D .next s') ?_ (λ_ s' q=>aU (aU q)) λ_ _ z=>z));refine wpAny_comprehension_free (use:=some _) (Q:=λ_ s'=>SP X pins D .next s') rfl hs (u_ J2) S.kind S.loc ?_;refine bH (hi pins s σ H _ I h) λv s1 h1=>bH h1 λitv s2 h2=>?_;obtain⟨it,fp,tn,J,d,e,I2,T,VN,f2,h2⟩:=h2;subst e;refine wpAny_newObj_type (hd:=by size_fits) (wpAny_newFunctionEnv S.ni (by intro y hy;simp at hy) (λh4 V Vj=>?_) S.kind);have A3:=I2.bK.fresh (bf s2.heap.objs.size);obtain⟨W,⟨m0,w0⟩,turn⟩:=h2 _ A3;have k:Inv X pins σ (upd d s2.heap.objs.size (.lst [])) {s2 with heap:=s2.heap.push {cls:= .type "list",dict:=none,data:= .seq ([]:List Value).toArray},toks:=s2.toks}:=I2.Pf .nil (dA _);have Y0:∀b∈fp,b<s2.heap.objs.size:=λb hb=>let⟨o,e,_⟩:=T.obj _ _ VN b hb;bA e;have up2:∀b o,s2.heap.get? b=some o->∀ob:Obj,(s2.heap.push ob).get? b=some o:=λb o e ob=>bC _ e;have Yz:(s2.heap.push {cls:= .type "list",dict:=none,data:= .seq ([]:List Value).toArray}).objs.size=s2.heap.objs.size+1:=Heap.size_push ..;revert V Vj k;generalize e3:s2.heap.push {cls:= .type "list",dict:=none,data:= .seq ([]:List Value).toArray}=h3 at Yz⊢;intro V Vj k;have keep:∀b o,h3.get? b=some o->h4.get? b=some o:=λb o e=>(Vj.2 b (cW (bA e))).trans (bC _ e);have R:∀b∈fp,lr X pins (upd d s2.heap.objs.size (.lst [])) b/\b<h3.objs.size:=λb hb=>by refine⟨⟨?_,(f2 b hb).2⟩,by rw[Yz];exact Nat.lt_succ_of_lt (Y0 b hb)⟩;rw[aI (cW (Y0 b hb))];exact(f2 b hb).1
 have F:=HA (t4:=s2.toks+([]:List (Str×Value)).length) S k R keep V;have U9:tn 0 h4:=T.keep _ _ _ VN λb hb o e=>keep b o (by rw[<-e3];exact up2 b o e _);have tS:∀{H':Hp},(∀b∈fp,H' b=none)->∀b∈fp,lr (dr X N' scope {s2 with heap:=h3,toks:=s2.toks} (upd d s2.heap.objs.size (.lst [])) fp) [] H' b:=λ{H'}hn b hb=>⟨hn b hb,cW (R b hb).2,λz=>F.ok.Bl b hb z, .inl hb,(F.ok.W3 b hb).2,λp Y=>(f2 b hb).2.2.2.2.2 p (A1 _ (by simpa using Y))⟩;have loop:∀M:Shared,Inv (dr X N' scope {s2 with heap:=h3,toks:=s2.toks} (upd d s2.heap.objs.size (.lst [])) fp) [] (gq own fr σ) (upd d s2.heap.objs.size (.lst [])) M->tn 0 M.heap->codeAny (model X.prog X.w) X.A (.compLoop (.ListComp G [⟨tg,iter,K,0⟩] scope pos) 0 (.ref it) (.ref s2.heap.objs.size) (Eo X scope h3.objs.size)) (compPost (model X.prog X.w) X.A X.xe (some λv=>assignAll v ((assignEach [.Name x pos'] X.env).map (·.2))) (λ_ s'=>SP X pins D .next s') (.ref s2.heap.objs.size) h3.objs.size) M:=by
  intro M Ix tx;refine o7 (λn s'=>∃i t H',Inv (dr X N' scope {s2 with heap:=h3,toks:=s2.toks} (upd d s2.heap.objs.size (.lst [])) fp) [] (gq own fr σ) H' s'/\tn i s'.heap/\(∀b∈fp,H' b=none)/\W i n t H') ?_ m0 ⟨0,[],_,Ix,tx,λb hb=>(R b hb).1.1,w0⟩;rintro n s5⟨i,t,C,I5,OB,UA,w5⟩;rcases turn i n t C w5 with⟨stop,qn⟩|⟨go,step⟩
  ·refine bH (T.done (dr X N' scope {s2 with heap:=h3,toks:=s2.toks} (upd d s2.heap.objs.size (.lst [])) fp) rfl rfl rfl hc i [] s5 _ C (λ_ _=>False) I5 (tS UA) OB stop) λr L a=>?_;obtain⟨Z,w⟩:=a;subst Z;obtain⟨m6,hm6,_⟩:=id w.loc;have O:Inv X pins σ C L:=k.Ke (s':=L) (ch:=fp) w.os (uC (h2:=L.heap) w.base (bf _) ⟨rfl,λ_ _=>rfl⟩) w.bK w.bare λb hb=>⟨(f2 b hb).2.2.2.1,(f2 b hb).2.1,(f2 b hb).2.2.2.2.1,(f2 b hb).2.2.2.2.2⟩;show wpAny _ _ (assign (.Name x pos') X.env (.ref s2.heap.objs.size)) _ _ _;refine wpAny_assign_Name (wF (v:= .ref s2.heap.objs.size) O hN hix (.inl hlx) rfl (λs8 P a=>?_) (.inr hlx));obtain⟨a8,sb8,ha8⟩:=a;have ltc:∀y c,X.env.cells.lookup y=some c->c<h3.objs.size:=λy c e=>by obtain⟨v,o,eo,_⟩:=k.cell y c e;exact bA eo
   have na8:h3.objs.size≠a8:=by
    rcases ha8 with z|z;·rw[z];exact Nat.ne_of_gt k.lt
    ·exact Nat.ne_of_gt (ltc _ _ z)
   obtain⟨o6,es6,ep6,ho6,r6⟩:=hm6;refine⟨m6,⟨o6,es6,ep6,(sb8.2 _ na8).trans ho6,r6⟩,λh9 hs9=>?_⟩;have l:=P.turned (h':=h9) (t':=s8.toks) (it:=h3.objs.size) (λb o hb e=>(hs9.2 b hb).trans e) w.free (Nat.ne_of_gt k.lt) (.inr k.sz) (λy c e=>cW (ltc y c e)) λp Y=>cW (bA (k.pin p Y).1);exact⟨_,C,l,qn⟩
  ·refine bH (T.item (dr X N' scope {s2 with heap:=h3,toks:=s2.toks} (upd d s2.heap.objs.size (.lst [])) fp) rfl rfl rfl hc i [] s5 _ C (λ_ _=>False) I5 (tS UA) OB go) λr L a=>?_;obtain⟨u,Z,h6⟩:=a;subst Z;refine bH h6 λ_ s7 a=>?_;obtain⟨x,H7,O,r7,y7,Wk,fr7⟩:=a;have I7':=O.pinned (tS fr7) (T.obj _ _ Wk);refine bH (hg _ _ _ _ s7 _ H7 x u _ I7' r7 (ho _ _ _ _ (step x H7 y7))) λ_ s8 a=>?_;obtain⟨N,H8,P,q8,l8,k8⟩:=a;have again:∀{m:Hp}{A:Shared},Inv (dr X N' scope {s2 with heap:=h3,toks:=s2.toks} (upd d s2.heap.objs.size (.lst [])) fp) ([]++nJ fp s7.heap) N m A->Inv (dr X N' scope {s2 with heap:=h3,toks:=s2.toks} (upd d s2.heap.objs.size (.lst [])) fp) [] (gq own fr σ) m A/\tn (i+1) A.heap/\∀b∈fp,m b=none:=λ{m A}l=>by
    refine⟨l.jl.weak l8.symm λj v e=>?_,T.keep _ _ _ Wk λb hb o e=>(l.pin (b,o) (lZ _ (lZ _ (eD hb e)))).1,λb hb=>?_⟩
    ·have hj:own<=j:=by refine Nat.le_of_not_lt λz=>?_;unfold gq at e;rw[DM (by simpa using z),List.getElem?_replicate]at e;split at e<;>cases e
     rw[k8 j hj];exact e
    ·obtain⟨o,e,_⟩:=T.obj _ _ Wk b hb;exact(l.pin (b,o) (lZ _ (lZ _ (eD hb e)))).2.1
   refine bH (hf _ _ _ _ s8 N H8 _ P q8) λok A a=>?_;obtain⟨m,l,q9⟩:=a;cases ok with|false=>obtain⟨m',U,w9⟩:=q9;obtain⟨a1,a2,a3⟩:=again l;exact⟨m',U,i+1,t,m,a1,a2,a3,w9⟩|true=>refine bH (he _ _ _ _ A N m _ l q9) λy IT a=>?_;obtain⟨v,Xp,I10,r10,VJ,I_,m',U,w10⟩:=a;refine bH (gY _ IT N Xp (.ref s2.heap.objs.size) [v] (.ref s2.heap.objs.size) [y] (λ_ Hn=>Hn=upd Xp s2.heap.objs.size (.lst (t++[v]))) I10 rfl (.cons r10 .nil) ⟨_,t,v,rfl,rfl,VJ,I_,rfl⟩) λ_ Oc a=>?_;obtain⟨_,H11,I11,_,e11⟩:=a;subst e11;obtain⟨a1,a2,a3⟩:=again I11;exact⟨m',U,i+1,t++[v],_,a1,a2,a3,w10⟩
 exact codeAny_compStart_list (loop _ F U9) (f_ (T.self X.A 0 _ (λv s'=>v= .ref it/\s'=_) (λ_ _=>False) U9 ⟨rfl,rfl⟩) (λv s'⟨e1,e2⟩=>by subst e1;subst e2;exact loop _ F U9) λ_ _ f=>f.elim)
end L3
end
section
namespace L3
open PySem PySem.Spec PyProof.Rows L2 KM
section
variable{X:Cx}
theorem C_:∀{ys:List Str}{us:List Value},Vals (ys.map V.str) us->StrsAre us ys|[],_, .nil=> .nil|y::ys,_, .cons r t=>by obtain⟨tk,rfl⟩:=(show∃t,_=Value.str y t from r);exact .cons y tk (C_ t)
theorem J1(hh:X.A.handled=none):iF X (.builtin "max") (λxs H Q=>∃i j:Int,xs=[.int i, .int j]/\Q (.int (if j>i then j else i)) H):=by
 intro pins s σ H xs us Q I r h;obtain⟨i,j,rfl,q⟩:=h;obtain⟨d,e,rfl,b,c⟩:=Vals.two r;obtain⟨t1,rfl⟩:=(show∃t,d=Value.int i t from b);obtain⟨t2,rfl⟩:=(show∃t,e=Value.int j t from c);refine max_two_ints hh λh' tk a=>⟨.int (if j>i then j else i),H,I.kept (h':=h') (t':=tk) a,?_,q⟩;split;·exact⟨_,rfl⟩
 ·exact⟨_,rfl⟩
end
section
variable{X:Cx}{pins:List (Addr×Obj)}{σ:L2.St}{H:Hp}{s:Shared}{a:Addr}{D:List (Str×V)}{k:Str}{tk:Tok}{A:Around}{E:Value->Shared->Prop}
theorem N6{Q:Value->Shared->Prop}{x:V}{b:Value}(T:iy X.K a D)(I:Inv X pins σ H s)(d:RelV x b)(h:∀c,RelV ((KTD.datumAt k D).getD x) c->Q c {s with toks:=s.toks+1}):wpAny (model X.prog X.w) A (call (.builtin "dict.get") [.ref a, .str k tk,b]) Q E s:=by
 have ty:=T.typeIs I;refine jO PySem.F.slot_dict_get ty PySem.F.entry_dict_get ?_ (PySem.F.args_dict_get_3 _ _ _);show wpAny (model X.prog X.w) _ (dictGet a (.str k tk)>>=_) _ _ s;refine ao (sR T I (λv u e r=>?_) λhn=>?_);·have h:=h u (by rw[e];exact r);exact aU ⟨u,rfl,h⟩
 ·have h:=h b (by rw[hn];exact d);refine ao ?_;unfold Builtin.Dict.missed;rw[T.sys];simp only[Bool.false_eq_true,if_false];exact aU (aU ⟨_,rfl,h⟩)
end
noncomputable def WG(K:PySem.W.Frag)(td ty tx:TE):TE:=λσ H Q=>td σ H λx b=>∃a D,x= .ref a/\iy K a D/\ty σ b λy c=>tx σ c λz d=>∃k,y= .str k/\Q ((KTD.datumAt k D).getD z) d
theorem BM{X:Cx}{o e f:Expr}{apos dy:Pos}{td ty tx:TE}(w:PE X o td)(p:PE X e ty)(v:PE X f tx)(m:M2 X o "get" apos e f dy):PE X (.Call (.Attribute o "get" apos) [e,f] [] dy) (WG X.K td ty tx):=by
 intro pins s σ H Q I h;refine wpAny_Call_method m.base m.Xl m.line PySem.F.plainAttrs_dict PySem.F.slot_dict_get PySem.F.type_dict_get (bH (w pins s σ H _ I h) λu s1 G=>?_);obtain⟨x,g,c,E,a,D,ex,T,A⟩:=G;subst ex;obtain rfl:u=Value.ref a:=E;have t1:=T.typeIs c;refine⟨t1,λb q=>?_,?_⟩;·cases q;obtain⟨o,_,_,e,x,_⟩:=T.ex;exact⟨o,c.gL a o e,x.2.1⟩
 rw[m.trees];refine Calls.callWith_builtin rfl (Calls.evalArgs_plain (Calls.spliced_cons (bH (p pins s1 σ g _ c A) λK s2⟨y,i,l,F,B⟩=>Calls.spliced_cons (bH (v pins s2 σ i _ l B) λJ L⟨z,j,d,rz,k,n,C⟩=>Calls.spliced_nil ?_))));subst n;obtain⟨t,rfl⟩:=F;exact N6 T d rz λM r=>⟨_,j,d.tok _,r,C⟩
theorem xw:∀(bs:List Addr),Vals (bs.map V.ref) (bs.map Value.ref)|[]=> .nil|b::bs=> .cons rfl (xw bs)
theorem nO{K:PySem.W.Frag}{a:Addr}{d:Option Addr}{its:Array Value}{n:Nat}{sl:Array (Option Value)}(bs:List Addr)(h:K.lookup a=some ⟨.type "tuple",d, .seq its n,sl⟩)(e:its.toList=bs.map Value.ref)(hl:bs.length<=100:=by decide):m4 K a (bs.map V.ref):=by refine⟨_,its,n,h,rfl,rfl,?_,by rw[e];exact xw bs⟩;have h2:=congrArg List.length e;rw[Array.length_toList,cy]at h2;rw[h2];exact cq hl (by decide)
theorem Oo{K:PySem.W.Frag}{a:Addr}{es:Array DictEntry}{ep:Nat}(b:List Str)(as:List Addr)(f:(a==sysModules)=false)(d:K.lookup a=some ⟨.type "dict",none, .dict es ep,#[]⟩)(c:fh es.toList b=true)(e:refsOf es.toList=as):iy K a ((b.zip as).map λp=>(p.1,V.ref p.2)):=by refine⟨f,_,es,ep,d,⟨rfl,rfl,rfl⟩,rfl,?_⟩;have h:=yy c;rw[e]at h;exact h
mutual noncomputable def Xv:D->PyData| .aO=> .none| .bl b=> .bool b| .int i=> .int i| .str x=> .str x| .tup ds=> .tuple (VB ds)noncomputable def VB:List D->List PyData|[]=>[]|d::ds=>Xv d::VB ds end
mutual theorem C4:∀d:D,(Xv d).depth<=depth d| .aO=>dA _| .bl _=>dA _| .int _=>dA _| .str _=>dA _| .tup ds=>by show PyData.depthAll (VB ds)+1<=1+aw ds;have :=xC ds;lia theorem xC:∀ds:List D,PyData.depthAll (VB ds)<=aw ds|[]=>dA _|d::ds=>by show max (Xv d).depth (PyData.depthAll (VB ds))<=max (depth d) (aw ds);have h1:=C4 d;have h2:=xC ds;lia end
section
variable{X:Cx}{pins:List (Addr×Obj)}{σ:L2.St}{H:Hp}{s:Shared}
end
mutual noncomputable def yd:D->Bool| .aO=>true| .bl _=>false| .int _=>true| .str x=>(PyData.str x).canLay0| .tup ds=>Q8 ds noncomputable def Q8:List D->Bool|[]=>true|d::ds=>yd d&&Q8 ds end
mutual theorem Hb:∀d:D,yd d=true->(Xv d).canLay0=true| .aO,_=>rfl| .bl _,h=>by cases h| .int _,_=>rfl| .str x,h=>h| .tup ds,h=>Cb ds h theorem Cb:∀ds:List D,Q8 ds=true->PyData.canLayAll0 (VB ds)=true|[],_=>rfl|d::ds,h=>by have h:(yd d&&Q8 ds)=true:=h;rw[bD]at h;show((Xv d).canLay0&&PyData.canLayAll0 (VB ds))=true;rw[Hb d h.1,Cb ds h.2];rfl end
theorem shp{d:D}(h:yd d=true)(hd:depth d<=60):SeqAt.shaped (Xv d)=true:=by unfold SeqAt.shaped;rw[Hb d h,Bool.true_and];exact decide_eq_true (cq (C4 d) (by lia))
section
variable{P:Program}{w:World}
open SeqAt MeetsSeq3 in open SeqAt MeetsSeq3 in end
section
variable{X:Cx}
end
theorem Mz{J:It}{p:Addr}{l:Hp}{g:TG}{q:TT}{o:TE}{b:L2.St}{C:Hp->Prop}(n:Nat)(Pv:Nat->List V->Hp->Prop)(r:Pv 0 [] (upd l p (.lst [])))(s:∀i a c,i<n->Pv i a c->J.go i c/\∀x d,J.vB i c x d->g x b d λj k=>q j k λok e=>if ok=true then o j e λv f=>f p=some (.lst a)/\a.length<sizeLine/\Nx n i (Pv (i+1) (a++[v]) (upd f p (.lst (a++[v]))))else Nx n i (Pv (i+1) a e))(hd:∀a c,Pv n a c->J.stop n c/\C c):∃W:Nat->Nat->List V->Hp->Prop,(∃m,W 0 m [] (upd l p (.lst [])))/\∀i m a c,W i m a c->(J.stop i c/\C c)\/(J.go i c/\∀x d,J.vB i c x d->g x b d λj k=>q j k λok e=>if ok=true then o j e λv f=>f p=some (.lst a)/\a.length<sizeLine/\∃h,h<m/\W (i+1) h (a++[v]) (upd f p (.lst (a++[v])))else∃h,h<m/\W (i+1) h a e):=mC (Q:=λ_ H=>C H) n Pv r s hd
end L3
end
section
namespace L3
open PySem
theorem nj{M:Model}{a:Ctx}{p:Pos}{t:Sem Fin}{fs:List Frame}{s s':Shared}{e:End}(h:Runs M a p t fs s e s'):s.toks<=s'.toks:=by induction h<;>first|exact bf _|assumption|(apply cq _ (by assumption);exact Nat.le_succ _)|(apply cq<;>assumption)
theorem wp_toks{x:Type}{M:Model}{u:Ctx}(n:Nat)(t:Sem x):∀{Q:x->Pos->Shared->Prop}{E:Value->Pos->Shared->Prop}{p:Pos}{s:Shared},n<=s.toks->Sem.wp M u t Q E p s->Sem.wp M u t (λa j s'=>Q a j s'/\n<=s'.toks) (λe j s'=>E e j s'/\n<=s'.toks) p s:=by
 induction t with
  |pure a=>intro Q E p s hn h;rw[Sem.wp]at h⊢;exact⟨h,hn⟩
  |raise e=>intro Q E p s hn h;rw[Sem.wp]at h⊢;exact⟨h,hn⟩
  |unsupported w=>intro Q E p s hn h;rw[Sem.wp]at h;exact h.elim
  |finish w=>intro Q E p s hn h;rw[Sem.wp]at h;exact h.elim
  |rule z k b=>intro Q E p s hn h;rw[Sem.wp]at h⊢;exact b _ hn h
  |«at» j k b=>intro Q E p s hn h;rw[Sem.wp]at h⊢;exact b _ hn h
  |load a part k b=>intro Q E p s hn h;rw[Sem.wp]at h⊢;obtain⟨o,e,h⟩:=h;exact⟨o,e,b _ hn h⟩
  |update a part f k b=>intro Q E p s hn h;rw[Sem.wp]at h⊢;obtain⟨e,h⟩:=h;exact⟨e,b _ hn h⟩
  |alloc o k b=>intro Q E p s hn h;rw[Sem.wp]at h⊢;exact b _ hn h
  |loadIfAlive a k b=>intro Q E p s hn h;rw[Sem.wp]at h⊢;exact b _ hn h
  |point l k b=>intro Q E p s hn h;rw[Sem.wp]at h⊢;exact b _ hn h
  |register a k b=>intro Q E p s hn h;rw[Sem.wp]at h;exact h.elim
  |fresh k b=>intro Q E p s hn h;rw[Sem.wp]at h⊢;exact b _ (cq hn (Nat.le_succ _)) h
  |ask k b=>intro Q E p s hn h;rw[Sem.wp]at h⊢;exact b _ hn h
  |choose src m k b=>intro Q E p s hn h;rw[Sem.wp]at h⊢;obtain⟨e,h⟩:=h;exact⟨e,b _ hn h⟩
  |os q l k b=>intro Q E p s hn h;rw[Sem.wp]at h⊢;exact b _ hn h
  |call c hd g l k b=>intro Q E p s hn h;rw[Sem.wp]at h⊢;obtain⟨r,s',i,h⟩:=h;exact⟨r,s',i,b _ (cq hn (nj i)) h⟩
  |handled own k b=>intro Q E p s hn h;rw[Sem.wp]at h⊢;exact b _ hn h
  |newGen c k b=>intro Q E p s hn h;rw[Sem.wp]at h⊢;exact b _ hn h
  |genState g k b=>intro Q E p s hn h;rw[Sem.wp]at h⊢;obtain⟨st,e,h⟩:=h;exact⟨st,e,b _ hn h⟩
  |resume g r l k b=>
   intro Q E p s hn h;rw[Sem.wp]at h⊢;obtain⟨y,s',hw,h⟩:=h;refine⟨y,s',hw,b _ ?_ h⟩;unfold Wakes at hw;split at hw;·exact hw.elim
   ·split at hw;·obtain⟨e1,s1,i,_,_,rfl⟩:=hw;have q:=nj i;exact cq hn q
    ·obtain⟨_,rfl⟩:=hw;exact hn
    ·obtain⟨_,rfl⟩:=hw;exact hn
   ·obtain⟨e1,s1,i,_,_,rfl⟩:=hw;have q:=nj i;exact cq hn q
   ·obtain⟨_,rfl⟩:=hw;exact hn
   ·obtain⟨_,rfl⟩:=hw;exact hn
  |yield v g l k b=>intro Q E p s hn h;rw[Sem.wp]at h;exact h.elim
  |stack k b=>intro Q E p s hn h;rw[Sem.wp]at h⊢;exact b _ hn h
  |fork c k b=>intro Q E p s hn h;rw[Sem.wp]at h;exact h.elim
  |thread k b=>intro Q E p s hn h;rw[Sem.wp]at h⊢;exact b _ hn h
  |await a f d l k b=>intro Q E p s hn h;rw[Sem.wp]at h;exact h.elim
theorem wpAny_toks{b:Type}{M:Model}{A:Around}{t:Sem b}{Q:b->Shared->Prop}{E:Value->Shared->Prop}{s:Shared}(n:Nat)(hn:n<=s.toks)(h:wpAny M A t Q E s):wpAny M A t (λa s'=>Q a s'/\n<=s'.toks) (λe s'=>E e s'/\n<=s'.toks) s:=λc p hi=>wp_toks n t hn (h c p hi)
theorem PR{c:Type}{M:Model}{A:Around}{t:Sem c}{Q b:c->Shared->Prop}{E:Value->Shared->Prop}{s:Shared}(f:0<s.toks)(h:wpAny M A t Q E s)(d:∀a s',0<s'.toks->Q a s'->b a s'):wpAny M A t b E s:=f_ (wpAny_toks 1 f h) (λa s' z=>d a s' z.2 z.1) λe s' z=>z.1
end L3
end
section
namespace L3
open PySem PySem.Builtin PySem.Builtin.Str PySem.StrLaws
noncomputable def k9(c:Nat):Nat->List Nat->List Nat|_,[]=>[]|a,x::r=>if x=c then a::k9 c (a+1) r else k9 c (a+1) r
noncomputable def iH(c:Nat):List Nat->List (List Nat)|[]=>[[]]|x::r=>if x=c then[]::iH c r else match iH c r with|[]=>[[x]]|w::ws=>(x::w)::ws
theorem vw(c:Nat)(l:List Nat):∃w ws,iH c l=w::ws:=by
 cases l with
  |nil=>exact⟨_,_,rfl⟩
  |cons x r=>
   rw[iH];split;·exact⟨_,_,rfl⟩
   ·split<;>exact⟨_,_,rfl⟩
theorem qJ(x:Str)(c hi limit:Nat)(hh:hi=x.length)(hl:hi<limit):∀(m lo:Nat)(st:Array Nat×Nat),lo+m=hi+1->st.1.size<=lo->st.2<=lo->(forIn (m:=Id) (List.range' lo m) st (occBody x ⟨#[c]⟩ hi limit)).run.1.toList=st.1.toList++k9 c lo (x.cps.toList.drop lo)
 |0,lo,st,h,h1,h2=>by
  have :x.cps.toList.drop lo=[]:=List.drop_eq_nil_of_le (by
   have :x.length=x.cps.toList.length:=by simp[Str.length]
   lia);rw[this];simp[k9]
 |m+1,lo,st,h,h1,h2=>by
  rw[List.range'_succ,List.forIn_cons];have one:=subAt_one x c lo;have d:x.length=x.cps.toList.length:=by simp[Str.length]
  by_cases a:lo<x.cps.toList.length
  ·have hd:x.cps.toList.drop lo=x.cps.toList[lo]::x.cps.toList.drop (lo+1):=El a;rw[hd,k9];unfold occBody;by_cases hc:x.cps.toList[lo]=c;·have q:=one.mpr (by rw[dR a,hc]);rw[if_pos ⟨⟨⟨by lia,h2⟩,by rw[hh];exact q.1⟩,q.2⟩,if_pos hc];show(forIn (m:=Id) (List.range' (lo+1) m) (st.1.push lo,lo+1) (occBody x ⟨#[c]⟩ hi limit)).run.1.toList=_;rw[qJ x c hi limit hh hl m (lo+1) (st.1.push lo,lo+1) (by lia) (by simp;lia) (bf _)];simp
   ·have q:¬((((st.1.size<limit/\st.2<=lo)/\lo+(⟨#[c]⟩:Str).length<=hi)/\subAt x ⟨#[c]⟩ lo=true)):=λz=>by have :=one.mp ⟨by rw[<-hh];exact z.1.2,z.2⟩;rw[dR a]at this;exact hc (Option.some.inj this)
    rw[if_neg q,if_neg hc];show(forIn (m:=Id) (List.range' (lo+1) m) (st.1,st.2) (occBody x ⟨#[c]⟩ hi limit)).run.1.toList=_;rw[qJ x c hi limit hh hl m (lo+1) (st.1,st.2) (by lia) (by show st.1.size<=lo+1;lia) (by show st.2<=lo+1;lia)]
  ·have hd:x.cps.toList.drop lo=[]:=List.drop_eq_nil_of_le (by lia);rw[hd,k9];unfold occBody;have q:¬((((st.1.size<limit/\st.2<=lo)/\lo+(⟨#[c]⟩:Str).length<=hi)/\subAt x ⟨#[c]⟩ lo=true)):=λz=>by have h3:(⟨#[c]⟩:Str).length=1:=rfl;have :=z.1.2;lia
   rw[if_neg q];show(forIn (m:=Id) (List.range' (lo+1) m) (st.1,st.2) (occBody x ⟨#[c]⟩ hi limit)).run.1.toList=_;rw[qJ x c hi limit hh hl m (lo+1) (st.1,st.2) (by lia) (by show st.1.size<=lo+1;lia) (by show st.2<=lo+1;lia)];have b:x.cps.toList.drop (lo+1)=[]:=List.drop_eq_nil_of_le (by lia);rw[b,k9]
theorem sY(x:Str)(c:Nat):occurrences x ⟨#[c]⟩ 0 x.length (x.length+1)=k9 c 0 x.cps.toList:=by rw[occ_eq];have :=qJ x c x.length (x.length+1) rfl (Nat.lt_succ_self _) (x.length+1) 0 (#[],0) (by lia) (by simp) (bf _);simpa using this
theorem Cc(x:Str)(i j:Nat):strSub x i j=⟨((x.cps.toList.drop i).take (j-i)).toArray⟩:=by apply PySem.Str.ext';apply Array.ext';rw[strSub_toList]
noncomputable def B8(pre:List Nat):List (List Nat)->List (List Nat)|[]=>[]|w::ws=>(pre++w)::ws
theorem nQ(x:Str)(c:Nat):∀(l pre:List Nat)(a b:Nat),x.cps.toList.drop a=pre++l->b=a+pre.length->c∉pre->partsFrom x 1 a (k9 c b l)=(B8 pre (iH c l)).map λw:List Nat=>(⟨w.toArray⟩:Str)
 |[],pre,a,b,hd,hb,hc=>by
  have f:x.length=x.cps.toList.length:=by simp[Str.length]
  rw[k9,partsFrom,iH,Cc];rw[gc]at hd;have hl:pre.length<=x.length-a:=by rw[<-hd,vb];lia
  rw[hd,C2 hl];simp[B8]
 |y::l,pre,a,b,hd,hb,hc=>by
  rw[k9,iH];by_cases d:y=c
  ·rw[if_pos d,if_pos d,partsFrom,Cc,hd,hb];have e1:(pre++y::l).take (a+pre.length-a)=pre:=by rw[show a+pre.length-a=pre.length by lia,List.take_left'];rfl
   rw[e1];have h3:x.cps.toList.drop (a+pre.length+1)=[]++l:=by rw[show a+pre.length+1=a+(pre.length+1)by lia,<-List.drop_drop,hd];simp
   rw[nQ x c l [] (a+pre.length+1) (a+pre.length+1) h3 (by simp) (by simp)];obtain⟨w,ws,e⟩:=vw c l;rw[e];simp[B8]
  ·rw[if_neg d,if_neg d];rw[nQ x c l (pre++[y]) a (b+1) (by rw[hd];simp) (by simp;lia) (by simp;exact⟨hc,λz=>d z.symm⟩)];obtain⟨w,ws,e⟩:=vw c l;rw[e];simp[B8]
theorem xy(x:Str)(c:Nat):partsBetween x (occurrences x ⟨#[c]⟩ 0 x.length (x.length+1)) 1=(iH c x.cps.toList).map λw:List Nat=>(⟨w.toArray⟩:Str):=by rw[partsBetween_eq,sY,nQ x c x.cps.toList [] 0 0 (by simp) rfl (by simp)];obtain⟨w,ws,e⟩:=vw c x.cps.toList;rw[e];simp[B8]
noncomputable def fJ(c:Nat)(z:List Nat)(l:List Nat):List Nat:=l.flatMap λa=>if a=c then z else[a]
theorem CO(c:Nat)(z:Str):∀l:List Nat,(Str.join z ((iH c l).map λw:List Nat=>(⟨w.toArray⟩:Str))).cps.toList=fJ c z.cps.toList l
 |[]=>by simp[iH,Str.join,fJ]
 |a::l=>by
  have b:=CO c z l;obtain⟨w,ws,e⟩:=vw c l;rw[iH];have e1:fJ c z.cps.toList (a::l)=(if a=c then z.cps.toList else[a])++fJ c z.cps.toList l:=by simp[fJ]
  rw[e1];by_cases ha:a=c;·rw[if_pos ha,if_pos ha,<-b,e];simp[Str.join,PySem.Str.cps_append]
  ·rw[if_neg ha,if_neg ha,<-b,e];cases ws with|nil=>simp[Str.join]|cons u us=>simp[Str.join,PySem.Str.cps_append]
theorem BE{c:Nat}:∀{l:List Nat},k9 c 0 l=[]\/c∉l->c∉l
 |l, .inr h=>h
 |l, .inl h=>by
  have e:∀(l:List Nat)(a:Nat),k9 c a l=[]->c∉l:=λl=>by
   induction l with
    |nil=>intro a _;simp
    |cons x r d=>
     intro a h;rw[k9]at h;split at h;·cases h
     ·rename_i b;have :=d (a+1) h;simp;exact⟨λz=>b z.symm,this⟩
  exact e l 0 h
theorem wN{c:Nat}{z:List Nat}:∀{l:List Nat},c∉l->fJ c z l=l
 |[],_=>rfl
 |a::l,h=>by
  have h:¬c=a/\c∉l:=by simpa using h
  have b:=wN (z:=z) h.2;unfold fJ at b⊢;rw[List.flatMap_cons,b,if_neg λe=>h.1 e.symm];rfl
theorem replace_one(x z:Str)(c:Nat):(Txt.replace x ⟨#[c]⟩ z).cps.toList=fJ c z.cps.toList x.cps.toList:=by
 unfold Txt.replace;rw[sY];have h1:(((⟨#[c]⟩:Str).length==0)&&(z.length==0))=false:=by rw[show(⟨#[c]⟩:Str).length=1 from rfl];rfl
 rw[h1,Bool.or_false];split;·rename_i h;have h:k9 c 0 x.cps.toList=[]:=List.isEmpty_iff.mp h;rw[wN (BE (.inl h))]
 ·rw[glued_eq_join,show(⟨#[c]⟩:Str).length=1 from rfl];have :=xy x c;rw[sY]at this;rw[this];exact CO c z _
theorem wX{c:Nat}:∀{l:List Nat},c∉l->iH c l=[l]
 |[],_=>rfl
 |a::l,h=>by
  have h:¬c=a/\c∉l:=by simpa using h
  rw[iH,if_neg λe=>h.1 e.symm,wX h.2]
noncomputable def sg(a:Nat):List Nat:=if a=40 then[32,40,32]else if a=41 then[32,41,32]else if a=10 then[32]else[a]
noncomputable def jN(l:List Nat):List (List Nat):=(iH 32 (l.flatMap sg)).filter λw=>!w.isEmpty
theorem oM(c:Nat)(z a b:List Nat):fJ c z (a++b)=fJ c z a++fJ c z b:=List.flatMap_append
theorem ZR:∀l:List Nat,fJ 10 [32] (fJ 41 [32,41,32] (fJ 40 [32,40,32] l))=l.flatMap sg
 |[]=>rfl
 |a::l=>by
  have e:fJ 40 [32,40,32] (a::l)=(if a=40 then[32,40,32]else[a])++fJ 40 [32,40,32] l:=by simp[fJ]
  rw[e,oM,oM,ZR l,List.flatMap_cons];congr 1;unfold sg;by_cases h1:a=40;·subst h1;rfl
  ·rw[if_neg h1,if_neg h1];by_cases h2:a=41;·subst h2;rfl
   ·rw[if_neg h2];by_cases h3:a=10;·subst h3;rfl
    ·rw[if_neg h3];simp[fJ,h2,h3]
noncomputable def brk(c:Nat):Bool:=c==32||c==10||c==40||c==41
end L3
end
section
namespace L3
open PySem PySem.Spec PyProof.Rows L2 KM
section
variable{X:Cx}
noncomputable def SN(X:Cx)(e:Expr)(t:TE):Prop:=∀(pins:List (Addr×Obj))(s:Shared)(σ:L2.St)(H:Hp)(Q:VK),Inv X pins σ H s->0<s.toks->t σ H Q->wpAny (model X.prog X.w) X.A (eval e X.env) (EP X pins σ Q) X.xe s
noncomputable def VG(X:Cx)(st:Stmt)(t:TS):Prop:=∀(pins:List (Addr×Obj))(s:Shared)(σ:L2.St)(H:Hp)(D:Ends),Inv X pins σ H s->0<s.toks->t D σ H->wpAny (model X.prog X.w) X.A (exec st X.env) (SP X pins D) X.xe s
noncomputable def tJ(X:Cx)(st:List Stmt)(t:TS):Prop:=∀(pins:List (Addr×Obj))(s:Shared)(σ:L2.St)(H:Hp)(D:Ends),Inv X pins σ H s->0<s.toks->t D σ H->wpAny (model X.prog X.w) X.A (execs st X.env) (SP X pins D) X.xe s
noncomputable def PSg(X:Cx)(st:Stmt)(t:TS):Prop:=∀(pins:List (Addr×Obj))(s:Shared)(σ:L2.St)(H:Hp)(D:Ends),Inv X pins σ H s->t D σ H->wpAny (model X.prog X.w) X.A (exec st X.env) (λf s'=>SP X pins D f s'/\0<s'.toks) X.xe s
variable{e:Expr}{es:List Expr}{te:TE}{st:Stmt}{rest:List Stmt}{t u:TS}{pos:Pos}
theorem acq(h:PE X e te):SN X e te:=λpins s σ H Q I _ q=>h pins s σ H Q I q
theorem EM(h:PS X st t):VG X st t:=λpins s σ H D I _ q=>h pins s σ H D I q
theorem eG(h1:VG X st t)(h2:tJ X rest u):tJ X (st::rest) (cg t u):=by intro pins s σ H D I a h;refine wpAny_execs_cons (PR a (h1 pins s σ H {D with nx:=u D} I a h) λf s1 c q=>?_);cases f with|next=>obtain⟨d,H',b,q⟩:=q;exact h2 pins s1 d H' D b c q|ret v=>exact q|brk=>exact q|cont=>exact q
theorem Di(h1:VG X st t):tJ X [st] t:=by intro pins s σ H D I a h;refine wpAny_execs_cons (bH (h1 pins s σ H D I a h) λf s1 q=>?_);cases f with|next=>exact wpAny_execs_nil q|ret v=>exact q|brk=>exact q|cont=>exact q
theorem Iq{i:Nat}{x:Str}{pos':Pos}(d:X.N.Nodup)(hi:X.N[i]?=some x)(l:Loc X.env.scope x)(f:SN X e te)(k:swapsWith e (some (.Name x pos')) pos.line X.env=pure false:=by rfl)(g:X.fn x=true\/X.env.scope.names.lookup x=some .local:=by first|exact .inl rfl|exact .inr rfl|assumption):VG X (.Assign [.Name x pos'] e pos) (Oz te (kx i)):=by intro pins s σ H D I j h;refine wpAny_Assign_Name (bH (f pins s σ H _ I j h) λv s1 o=>?_) k;obtain⟨y,a,b,n,m⟩:=o;exact jd b d hi l n (λs2 c=>⟨_,a,c,m⟩) g
end
structure aac(P:Program)(w:World)(K:PySem.W.Frag)(mg:Str->Option Value)(base:Heap)(CX:kL)(k:Nat)(f:Addr)(fd:FuncData)(ps:List Str)(sp:Sp):Prop where
 len:∀vs H Q E,sp vs H Q E->vs.length=ps.length
 run:∀(A:Around)(outer:List Env)(s:Shared)(H:Hp)(args:Args)(us:List Value)(vs:List V)(Q:VK)(E:XK),0<s.toks->bY k A->vm P w K mg base A outer s H->BindsTo s fd args (ps.zip us)->Vals vs us->sp vs H Q E->codeAny (model P w) A (.call (.ref f) args) (CR CX A.handled outer P w H s Q E) s
noncomputable def Am(P:Program)(w:World)(K:PySem.W.Frag)(mg:Str->Option Value)(CX:kL)(x:Str)(k:Nat)(ps:List Str)(sp:Sp):Prop:=∃f fd,(∀base,aac P w K mg base CX k f fd ps sp)/\mg x=some (.ref f)/\PySem.W.keepIn K (.ref f)=true/\Binds K fd ps []
theorem tJ.Gw{X:Cx}{st:List Stmt}{t:TS}(h:tJ X.Gw st t):tJ X st t:=λpins s σ H D I k hw=>f_ (h pins s σ H D (I.ur _) k hw) (λ_ _ q=>q.ie) λ_ _ z=>False.elim z
theorem Df.aa1{P:Program}{w:World}{K:PySem.W.Frag}{mg:Str->Option Value}{CX:kL}{x:Str}{st:Stmt}{N ps:List Str}{k:Nat}{sp:Sp}(D:Df K mg x st ps)(S:aC N ps (ai st))(len:∀vs H Q E,sp vs H Q E->vs.length=ps.length)(g:∀(base:Heap)(f:Addr)(bS:Value)(A:Around)(outer:List Env)(s:Shared)(H:Hp)(vs:List V)(Q:VK)(E:XK),bY k (A.deeper (envOfC x (ai st) s.heap.objs.size f bS))->sp vs H Q E->∃t,tJ (dw CX P w K mg base N x (ai st) f bS A outer s H E) (bu st) t/\t {nx:=λ_ H'=>Q .aO H',rt:=Q} (start N vs) H):Am P w K mg CX x (k+1) ps sp:=by
 obtain⟨f,fd,F,m,b⟩:=D;refine⟨f,fd,λbase=>?_,m,F.kp,b⟩;have g:=g base f;obtain⟨oc,od,kV,doc,pm,an,bS,ct,A4,rfl,M,p⟩:=F.ex;refine⟨len,λA outer s H args us vs Q E z j e0 hb r l=>?_⟩;have hl:=len _ _ _ _ l;have KX:K.In s.heap:=e0.mod.DD.keeps λb o e=>(e0.bs b o e).1;have L:s.heap.NoLimit:=e0.mod.nolimit.keeps λb o e=>(e0.bs b o e).1;have B:∀y∈ps.zip us,(ai st).names.lookup y.1=some .local\/((ai st).names.lookup y.1=some .cell/\((cellsFrom (s.heap.objs.size+1) (ai st).names []).lookup y.1).isSome=true):=λ⟨n,v⟩C=>by
  rcases S.par n (List.of_mem_zip C).1 with q|q;·exact .inl q
  ·exact .inr ⟨q,PySem.W.cellsFrom_some _ _ _ (.inl q)⟩
 refine codeAny_call_function j.depth (KX _ _ M) rfl S.co S.gen rfl (PySem.W.codeRec_of KX p) (hb _ _ _ _ ?_);refine PR z (wpAny_newFunctionEnv_cells S.kind B λenv h s1 c=>(⟨h,c⟩:_/\_)) λenv s1 G O=>?_;obtain⟨h,c⟩:=O;subst h;refine⟨L.keeps c.toInCall.keep,codeAny_func ?_⟩;obtain⟨t,ht,hq⟩:=g bS A outer s H vs Q E (j.deeper _) l;have I:Inv (dw CX P w K mg base N x (ai st) f bS A outer s H E) [] (start N vs) H s1:=wM S e0 hl r c;refine f_ (ht [] s1 (start N vs) H _ I G hq) (λfl s' a=>?_) λe s' a=>a;have fin:∀{d:L2.St}{H':Hp}{v:V}{u:Value},Inv (dw CX P w K mg base N x (ai st) f bS A outer s H E) [] d H' s'->RelV v u->Q v H'->CE outer P w H s Q u s':=λ{d H' v u}J i q=>⟨v,H',J.os,J.bare,J.base,J.bK,i,q⟩;cases fl with|ret u=>obtain⟨v,d,H',J,i,q⟩:=a;exact fin J i q|next=>obtain⟨d,H',J,q⟩:=a;exact fin (v:=V.aO) (u:=Value.none) J rfl q|brk=>obtain⟨_,_,_,q⟩:=a;exact False.elim q|cont=>obtain⟨_,_,_,q⟩:=a;exact False.elim q
theorem Df.okP{P:Program}{w:World}{K:PySem.W.Frag}{mg:Str->Option Value}{x:Str}{st:Stmt}{N ps:List Str}{k:Nat}{sp:Sp}(D:Df K mg x st ps)(S:aC N ps (ai st))(len:∀vs H Q E,sp vs H Q E->vs.length=ps.length)(a:∀(base:Heap)(f:Addr)(bS:Value)(A:Around)(outer:List Env)(s:Shared)(H:Hp)(vs:List V)(Q:VK)(E:XK),bY k (A.deeper (envOfC x (ai st) s.heap.objs.size f bS))->sp vs H Q E->∃t,tJ (dw b_ P w K mg base N x (ai st) f bS A outer s H E).Gw (bu st) t/\t {nx:=λ_ H'=>Q .aO H',rt:=Q} (start N vs) H):Am P w K mg b_ x (k+1) ps sp:=D.aa1 S len λbase f bS A outer s H vs Q E b h=>let⟨t,ht,q⟩:=a base f bS A outer s H vs Q E b h;⟨t,ht.Gw,q⟩
theorem WK{X:Cx}{CX:kL}{x:Str}{k:Nat}{ps:List Str}{sp:Sp}{E:XK}{e:Expr}{es:List Expr}{t:TA}{p d:Pos}(F:Am X.prog X.w X.K X.mg CX x k ps sp)(v:bY k X.A)(l:Gl X x)(w:Passes CX X E)(ha:PA X (e::es) t)(i:(x==("__debug__":Str))=false:=by decide)(j:starEach (e::es) X.env=(false,eval e X.env)::starEach es X.env:=by rfl)(o:(backTo d (starEach es X.env)).any (·.1)=false:=by rfl)(hc:X.calm=true:=by rfl):SN X (.Call (.Name x p) (e::es) [] d) (GD sp [] E t):=by
 obtain⟨f,fd,F,m,kp,b⟩:=F;intro pins s σ H Q I n h;refine pM (fb I l m ?_ i);refine PySem.W.callWith_K (h₀:=X.base) I.ok.mod.DD kp (PR n (ha d pins s σ H _ I h) λus s1 y⟨vs,c,a,r,q⟩=>⟨a.gL,?_⟩) j o;have q:sp (vs++[]) c Q E:=q;rw[gc]at q;have hl:us.length=ps.length:=by rw[<-r.length];exact(F (uk s1.heap c (jq X.stack))).len _ _ _ _ q
 have g:=b s1 us a.gL (by rw[gc];exact hl);rw[gc]at g;refine wpAny_call (codeAny_mono ((F _).run X.A X.stack s1 c ⟨us,[]⟩ us vs Q E y v (Ez a hc) g r q) λr s' hq=>?_);cases r with|error e=>exact w pins σ c s1 e s' a hq|ok fl=>cases fl with|ret u=>exact a.after hq|next=>exact False.elim hq|brk=>exact False.elim hq|cont=>exact False.elim hq
noncomputable def PAg(X:Cx)(es:List Expr)(t:TA):Prop:=∀(a:Pos)(pins:List (Addr×Obj))(s:Shared)(σ:L2.St)(H:Hp)(Q:List V->Hp->Prop),Inv X pins σ H s->t σ H Q->wpAny (model X.prog X.w) X.A (spliced (backTo a (starEach es X.env))) (λus s'=>AP X pins σ Q us s'/\0<s'.toks) X.xe s
theorem mH{X:Cx}{e:Expr}{es:List Expr}{b:TE}{t:TA}(ha:PE X e b)(i:PAg X es t)(j:starEach (e::es) X.env=(false,eval e X.env)::starEach es X.env:=by rfl):PAg X (e::es) (Hq b t):=by intro a pins s σ H Q I h;rw[j];show wpAny _ _ (spliced ((false,eval e X.env)::backTo a (starEach es X.env))) _ _ s;refine Calls.spliced_cons (bH (ha pins s σ H _ I h) λu s1 p=>?_);obtain⟨x,c,f,n,l⟩:=p;exact bH (i a pins s1 σ c _ f l) λus s2⟨⟨xs,d,g,o,m⟩,k⟩=>⟨⟨x::xs,d,g, .cons n o,m⟩,k⟩
theorem GA{X:Cx}{x:Str}{j:Nat}{p:Pos}(a:starEach [.Constant (.str x) j p] X.env=[(false,eval (.Constant (.str x) j p) X.env)]:=by rfl):PAg X [.Constant (.str x) j p] (Hq (tC (.str x)) Kd):=by intro b pins s σ H Q I h;rw[a];show wpAny _ _ (spliced ((false,eval (.Constant (.str x) j p) X.env)::[])) _ _ s;exact Calls.spliced_cons (Calls.Constant_str (Calls.spliced_nil ⟨⟨[.str x],H,I.tok _, .cons ⟨_,rfl⟩ .nil,h⟩,Nat.succ_pos _⟩))
theorem MH{X:Cx}{CX:kL}{x:Str}{k:Nat}{ps:List Str}{sp:Sp}{E:XK}{e:Expr}{es:List Expr}{t:TA}{p d:Pos}(F:Am X.prog X.w X.K X.mg CX x k ps sp)(o:bY k X.A)(l:Gl X x)(v:Passes CX X E)(ha:PAg X (e::es) t)(i:(x==("__debug__":Str))=false:=by decide)(j:starEach (e::es) X.env=(false,eval e X.env)::starEach es X.env:=by rfl)(n:(backTo d (starEach es X.env)).any (·.1)=false:=by rfl)(hc:X.calm=true:=by rfl):PE X (.Call (.Name x p) (e::es) [] d) (GD sp [] E t):=by
 obtain⟨f,fd,F,m,kp,b⟩:=F;intro pins s σ H Q I h;refine pM (fb I l m ?_ i);refine PySem.W.callWith_K (h₀:=X.base) I.ok.mod.DD kp (bH (ha d pins s σ H _ I h) λus s1⟨⟨vs,c,a,r,q⟩,w⟩=>⟨a.gL,?_⟩) j n;have q:sp (vs++[]) c Q E:=q;rw[gc]at q;have hl:us.length=ps.length:=by rw[<-r.length];exact(F (uk s1.heap c (jq X.stack))).len _ _ _ _ q
 have g:=b s1 us a.gL (by rw[gc];exact hl);rw[gc]at g;refine wpAny_call (codeAny_mono ((F _).run X.A X.stack s1 c ⟨us,[]⟩ us vs Q E w o (Ez a hc) g r q) λr s' hq=>?_);cases r with|error e=>exact v pins σ c s1 e s' a hq|ok fl=>cases fl with|ret u=>exact a.after hq|next=>exact False.elim hq|brk=>exact False.elim hq|cont=>exact False.elim hq
theorem J0{X:Cx}:iF X (.type "str") (λxs H Q=>∃i:Int,xs=[.int i]/\i.natAbs.log2<1920/\Q (.str (Str.ofString (toString i))) H):=by intro pins s σ H xs us Q I r h;obtain⟨i,rfl,hi,q⟩:=h;obtain⟨u,rfl,t,rfl⟩:=vals1 r;exact PySem.P.str_of_int hi ⟨.str _,H,I.tok _,⟨_,rfl⟩,q⟩
theorem m5{X:Cx}:iF X (.type "int") (λxs H Q=>∃(z:Str)(n:Int),xs=[.str z]/\PySem.intText? z=some n/\z.length<=640/\Q (.int n) H):=by intro pins s σ H xs us Q I r h;obtain⟨z,n,rfl,hn,hl,q⟩:=h;obtain⟨u,rfl,t,rfl⟩:=vals1 r;exact PySem.W.KIN.call_text hn hl ⟨.int n,H,I.tok _,⟨_,rfl⟩,q⟩
section
variable{X:Cx}
noncomputable def Zs(y z:Str)(to:TE):TE:=λσ H Q=>to σ H λx b=>∃a:Str,x= .str a/\a.length+(a.length+1)*z.length<=16777216/\Q (.str (Txt.replace a y z)) b
theorem uz{o:Expr}{apos dy e f:Pos}{c d:Nat}{y z:Str}{to:TE}(j:SN X o to)(l:(y==z)=false)(m:M2 X o "replace" apos (.Constant (.str y) c e) (.Constant (.str z) d f) dy):SN X (.Call (.Attribute o "replace" apos) [.Constant (.str y) c e, .Constant (.str z) d f] [] dy) (Zs y z to):=by intro pins s σ H Q I a h;refine wpAny_Call_method m.base m.Xl m.line PySem.F.plainAttrs_str PySem.F.slot_str_replace PySem.F.type_str_replace (PR a (j pins s σ H _ I a h) λu s1 n A=>?_);obtain⟨x,g,i,v,w,ex,hb,r⟩:=A;subst ex;obtain⟨t,rfl⟩:=(show∃t,u=Value.str w t from v);refine⟨typeIs_str _ _ _,(λb q=>nomatch q),?_⟩;rw[m.trees];refine Calls.callWith_builtin rfl (Calls.evalArgs_plain (Calls.spliced_cons (Calls.Constant_str (Calls.spliced_cons (Calls.Constant_str (Calls.spliced_nil ?_))))));have p:s1.toks≠0:=Nat.pos_iff_ne_zero.mp n;refine SC.replace p (Nat.succ_ne_zero _) (cW (Nat.lt_succ_self _)) l hb λt' k=>⟨.str _,g,?_,⟨_,rfl⟩,r⟩;exact(i.tok _).tok _
noncomputable def T3:V->List V->Hp->VK->Prop:=λx vs H Q=>∃(z:Str)(c:Nat),x= .str z/\vs=[.str ⟨#[c]⟩]/\c<256/\z.length<sizeLine/\∀p,H p=none->Q (.ref p) (upd H p (.lst ((iH c z.cps.toList).map λw:List Nat=>V.str ⟨w.toArray⟩)))
theorem qW(c:Nat):∀l:List Nat,(iH c l).length<=l.length+1|[]=>by simp[iH]|a::l=>by have b:=qW c l;obtain⟨w,ws,e⟩:=vw c l;rw[iH,e];rw[e]at b;split<;>simp only[dY]at b⊢<;>lia
theorem wO:∀(ws:List Str)(n:Nat),Vals (ws.map V.str) (strsFrom n ws)|[],_=> .nil|w::ws,n=> .cons ⟨n,rfl⟩ (wO ws (n+1))
theorem NQ{c:Nat}(h:c<256)(z:Str):decide (Builtin.Str.strKind z<Builtin.Str.strKind ⟨#[c]⟩)=false:=by
 have e:Builtin.Str.strKind ⟨#[c]⟩=1:=by unfold Builtin.Str.strKind;rw[if_pos (by simp[h])]
 rw[e];refine decide_eq_false ?_;unfold Builtin.Str.strKind;repeat' split
 all_goals lia
theorem LN:MtR X "str.split" T3:=by
 intro pins s σ H x vs v us Q I m l h;obtain⟨z,c,rfl,rfl,hc,n,q⟩:=h;obtain⟨u,rfl,k⟩:=l.one;obtain⟨t,rfl⟩:=(show∃t,v=Value.str z t from m);obtain⟨t2,rfl⟩:=(show∃t,u=Value.str ⟨#[c]⟩ t from k);have hl:z.length=z.cps.toList.length:=by simp[Str.length]
 have whole:iH c z.cps.toList=[z.cps.toList]->EP X pins σ Q (.ref s.heap.objs.size) {s with heap:=s.heap.push {cls:= .type "list",data:= .seq [Value.str z t].toArray}}:=λe=>by rw[e]at q;exact⟨.ref s.heap.objs.size,_,I.Pf (t':=s.toks) (its:=[Value.str z t]) (ys:=[V.str ⟨z.cps.toList.toArray⟩]) (.cons ⟨t,by simp⟩ .nil) (gZ rfl),rfl,q _ I.fresh⟩
 have j:=NQ hc z;by_cases b:z.length<1;·have e0:z.cps.toList=[]:=List.length_eq_zero_iff.mp (by lia);refine call_meets F.slot_str_split (typeIs_str _ _ _) F.entry_str_split (F.args_str_split_2 _ _) (meets_str_split_cannot_occur z ⟨#[c]⟩ t t2 (by rw[show(⟨#[c]⟩:Str).length=1 from rfl,decide_eq_true b];rfl)) ?_;exact whole (by rw[e0];rfl)
 have d:(decide (z.length<(⟨#[c]⟩:Str).length)||decide (Builtin.Str.strKind z<Builtin.Str.strKind ⟨#[c]⟩))=false:=by rw[j,Bool.or_false,show(⟨#[c]⟩:Str).length=1 from rfl,decide_eq_false b]
 have i:((⟨#[c]⟩:Str).length==0)=false:=rfl;cases a:(Builtin.Str.occurrences z ⟨#[c]⟩ 0 z.length (z.length+1)).isEmpty with
  |true=>refine call_meets F.slot_str_split (typeIs_str _ _ _) F.entry_str_split (F.args_str_split_2 _ _) (meets_str_split_not_found z ⟨#[c]⟩ t t2 d i a) ?_;rw[sY]at a;exact whole (wX (BE (.inl (List.isEmpty_iff.mp a))))
  |false=>
   have f:=xy z c;have hlen:(Builtin.Str.partsBetween z (Builtin.Str.occurrences z ⟨#[c]⟩ 0 z.length (z.length+1)) 1).length<=sizeLine:=by rw[f,cy];have :=qW c z.cps.toList;lia
   refine call_meets F.slot_str_split (typeIs_str _ _ _) F.entry_str_split (F.args_str_split_2 _ _) (meets_str_split_sep z ⟨#[c]⟩ t t2 d i a (by lia) hlen) ?_;rw[show(⟨#[c]⟩:Str).length=1 from rfl,f];have g:=wO ((iH c z.cps.toList).map λw:List Nat=>(⟨w.toArray⟩:Str)) s.toks;rw[List.map_map]at g;exact⟨.ref s.heap.objs.size,_,I.Pf (ys:=(iH c z.cps.toList).map λw:List Nat=>V.str ⟨w.toArray⟩) g (by rw[cy];have :=qW c z.cps.toList;lia),rfl,q _ I.fresh⟩
end
end L3
end
section
namespace K62
open PySem L2 L3 KM PyProof.Rows
seal L2.PE L2.PS L2.gR L2.PT L2.PW L2.PA L2.PG L2.zI L2.PI L2.PC L2.PO L2.E_ L2.PK L3.zD L3.SN L3.VG L3.tJ L3.PSg
variable{P:Program}{w:World}{K:PySem.W.Frag}{mg:Str->Option Value}{base:Heap}{t:wQ}
noncomputable def tx(l:List Nat):Str:=⟨l.toArray⟩
theorem ZQ(z:Str):tx z.cps.toList=z:=by cases z;rfl
theorem NN(l:List Nat):(tx l).length=l.length:=rfl
theorem str_len(z:Str):z.length=z.cps.toList.length:=by simp[Str.length]
def GJ:Sp:=λvs H Q _=>∃z:Str,vs=[.str z]/\z.length<=100000/\∀(p:Addr)(H':Hp),H p=none->ay H H'->H' p=some (.lst ((jN z.cps.toList).map λw=>V.str (tx w)))->Q (.ref p) H'
theorem uu{c:Nat}{z:List Nat}(b:z.length<=3)(h1:1<=z.length):∀l:List Nat,(fJ c z l).length<=3*l.length
 |[]=>by simp[fJ]
 |a::l=>by
  have d:=uu (c:=c) b h1 l;unfold fJ at d⊢;rw[List.flatMap_cons,iQ,dY];have :(if a=c then z else[a]).length<=3:=by
   split;·exact b
   ·simp
  omega
theorem ox:aC ["text","spaced"] ["text"] (ai fL):=⟨rfl,rfl,rfl,by decide+kernel,rfl,by decide+kernel,by decide+kernel⟩
theorem Eh(D:Df K mg "words_of" fL ["text"])(M:Mg mg t):Am P w K mg b_ "words_of" 2 ["text"] GJ:=by
 refine D.okP ox (λvs H Q E h=>?_) (λbase f bS A outer s H vs Q E U h=>?_);·obtain⟨z,rfl,_⟩:=h;rfl
 obtain⟨z,rfl,W,q⟩:=h;have hl:=str_len z;refine⟨_,(eG (Iq (i:=1) ox.nd rfl (dq rfl) (uz (uz (uz (acq (pv 0)) (by decide+kernel) ⟨rfl,rfl,rfl,rfl⟩) (by decide+kernel) ⟨rfl,rfl,rfl,rfl⟩) (by decide+kernel) ⟨rfl,rfl,rfl,rfl⟩)) (Di (EM (aB (g8 (N':=["word"]) (own:=1) (fr:=[]) rfl (iN (N:=["text","spaced"]) (sc:=ai fL) rfl rfl rfl (by decide+kernel)) (sA (xh PySem.F.plainAttrs_str PySem.F.slot_str_split PySem.F.type_str_split LN (pv 1) (aa aN ah))) (fX (by decide)) (λ_ _ _=>(bx (i:=0) (show List.Nodup (["word"]:List Str)by decide+kernel) rfl (Or.inl rfl))) (λ_ _ _=>(zc (aG Gn (pv 0) aN (aJ _)))) (λ_ _ _=>(pv 0))))))),?_⟩;try dsimp only[iG,R]
 refine pG ?_;intro _ _;have e1:Str.ofString "("=⟨#[40]⟩:=by decide+kernel
 have e2:Str.ofString ")"=⟨#[41]⟩:=by decide+kernel
 have e3:Str.ofString "\n"=⟨#[10]⟩:=by decide+kernel
 have e4:Str.ofString " "=⟨#[32]⟩:=by decide+kernel
 have G:(Str.ofString " ( ").length=3:=by decide+kernel
 have I:(Str.ofString " ) ").length=3:=by decide+kernel
 have c1:(Str.ofString " ( ").cps.toList=[32,40,32]:=by decide+kernel
 have c2:(Str.ofString " ) ").cps.toList=[32,41,32]:=by decide+kernel
 have n:=replace_one z (Str.ofString " ( ") 40;have u:=replace_one (Txt.replace z "(" " ( ") (Str.ofString " ) ") 41;have o:=replace_one (Txt.replace (Txt.replace z "(" " ( ") ")" " ) ") (Str.ofString " ") 10;rw[<-e1,c1]at n;rw[<-e2,c2,n]at u;rw[<-e3,u,show(Str.ofString " ").cps.toList=[32]by rw[e4],ZR]at o;have y:(Txt.replace z "(" " ( ").length<=3*z.length:=by rw[str_len,n,hl];exact uu (by decide) (by decide) _
 have O:(Txt.replace (Txt.replace z "(" " ( ") ")" " ) ").length<=3*(3*z.length):=by
  have :=uu (c:=41) (z:=[32,41,32]) (by decide) (by decide) (fJ 40 [32,40,32] z.cps.toList);rw[str_len,u];have h2:(fJ 40 [32,40,32] z.cps.toList).length<=3*z.length:=by rw[<-n,<-str_len];exact y
  omega
 have B:(Txt.replace (Txt.replace (Txt.replace z "(" " ( ") ")" " ) ") "\n" " ").length<=3*z.length:=by
  rw[str_len,o,hl];have :∀l:List Nat,(l.flatMap sg).length<=3*l.length:=λl=>by
   induction l with
    |nil=>simp
    |cons a l X=>
     rw[List.flatMap_cons,iQ,dY];have :(sg a).length<=3:=by
      unfold sg;repeat' split
      all_goals simp
     omega
  exact this _
 have J:(Str.ofString " ").length=1:=by decide+kernel
 refine⟨_,rfl,z,rfl,(by rw[G];omega),_,rfl,(by rw[I];omega),_,rfl,(by rw[J];omega),?_⟩;generalize Txt.replace (Txt.replace (Txt.replace z "(" " ( ") ")" " ) ") "\n" " "=T at o B⊢;have S:=str_len T;refine⟨_,rfl,rfl,T,32,rfl,(by rw[e4]),(by decide),(by rw[sizeLine_eq];omega),λm F=>⟨m,rfl,⟨_,bI.of aq⟩,λp j=>?_⟩⟩;have v:=av F (.lst ((iH 32 T.cps.toList).map λw:List Nat=>V.str ⟨w.toArray⟩));have g:(upd H m (.lst ((iH 32 T.cps.toList).map λw:List Nat=>V.str ⟨w.toArray⟩))) m=some (.lst ((iH 32 T.cps.toList).map λw:List Nat=>V.str (tx w))):=aq;generalize upd H m (.lst ((iH 32 T.cps.toList).map λw:List Nat=>V.str ⟨w.toArray⟩))=x at v g j⊢;have hlen:=qW 32 T.cps.toList;refine Mz (iH 32 T.cps.toList).length (λi d b=>d=(((iH 32 T.cps.toList).take i).filter λw=>!w.isEmpty).map (λw=>V.str (tx w))/\b p=some (.lst d)/\ay x b) ⟨by simp,aq,av j _⟩ ?_ ?_
 ·rintro i d b hi⟨rfl,h2,s2⟩;have hw:((iH 32 T.cps.toList).map λw:List Nat=>V.str (tx w))[i]?=some (.str (tx (iH 32 T.cps.toList)[i])):=by simp[hi]
  refine⟨⟨_,_,bI.of (s2 _ _ g),hw⟩,?_⟩;rintro Y L⟨rfl,k⟩;have k:=k _ (bI.of (s2 _ _ g));rw[hw]at k;cases k;have C:((((iH 32 T.cps.toList).take i).filter λw=>!w.isEmpty).map (λw=>V.str (tx w))).length<sizeLine:=by rw[cy,sizeLine_eq];have :=List.length_filter_le (λw:List Nat=>!w.isEmpty) ((iH 32 T.cps.toList).take i);rw[List.length_take]at this;omega
  have tk:(iH 32 T.cps.toList).take (i+1)=(iH 32 T.cps.toList).take i++[(iH 32 T.cps.toList)[i]]:=by rw[List.take_add_one,dR hi];rfl
  refine⟨_,rfl,rfl,_,rfl,?_⟩;refine a_ (λc=>?_) (λc=>?_)
  ·refine⟨_,rfl,h2,C,nx hi ⟨?_,aq,gS s2 j⟩⟩;have ne:(iH 32 T.cps.toList)[i].isEmpty=false:=by cases e:(iH 32 T.cps.toList)[i]with|cons a r=>rfl|nil=>rw[e]at c;exact absurd c (by decide+kernel)
   rw[tk,List.filter_append,List.map_append];simp[ne]
  ·refine nx hi ⟨?_,h2,s2⟩;have ne:(iH 32 T.cps.toList)[i].isEmpty=true:=by cases e:(iH 32 T.cps.toList)[i]with|nil=>rfl|cons a r=>refine absurd ?_ c;rw[e];refine(Bool.not_eq_eq_eq_not ..).mpr (decide_eq_false λz=>?_);injection z with z;have :=congrArg Str.length z;exact absurd this (by rw[NN];simp[show(Str.ofString "").length=0 by decide+kernel])
   rw[tk,List.filter_append,List.map_append];simp[ne]
 ·rintro d b⟨rfl,h2,s2⟩;refine⟨⟨_,bI.of (s2 _ _ g),by rw[cy];exact bf _⟩,?_⟩;rw[List.take_length]at h2;refine q p b (v.free j) (v.trans s2) ?_;rw[h2,jN,o]
end K62
end
section
namespace K62
open PySem L2 L3 KM
seal L2.PE L2.PS L2.gR L2.PT L2.PW L2.PA L2.PG L2.zI L2.PI L2.PC L2.PO L2.E_ L2.PK L3.zD
variable{P:Program}{w:World}{K:PySem.W.Frag}{mg:Str->Option Value}{base:Heap}{t:wQ}
noncomputable def bG:List (Str×List V):=[("nat",[]),("none",[]),("all",[.str "kind", .str "kind"]),("some",[.str "kind", .str "kind"]),("same",[.str "kind", .str "term", .str "term"]),("var",[]),("fun",[.str "kind", .str "term"]),("app",[.str "term", .str "term"]),("zero",[]),("next",[.str "term"]),("rec",[.str "kind", .str "term", .str "term", .str "term"]),("like",[.str "kind", .str "term"]),("carry",[.str "kind", .str "term", .str "term"]),("never",[.str "kind", .str "term"]),("pair",[.str "kind", .str "term", .str "term"]),("first",[.str "term"]),("second",[.str "term"]),("name",[])]
noncomputable def ZA(c:Nat):V:=if c=107 then .str "kind"else .str "term"
noncomputable def To(r:Str×List V):Bool:=match du r.1 with| .str s=>decide (s.cps.size<=4)&&if r.1="var"then decide (s="n")else if r.1="name"then decide (s="w")else s.cps.toList.all (λc=>c==107||c==116)&&decide (r.2=s.cps.toList.map ZA)|_=>false
theorem Ri:bG.all To=true:=by decide+kernel
theorem lookup_mem{a:Type}{x:Str}{v:a}:∀{l:List (Str×a)},l.lookup x=some v->(x,v)∈l
 |[],h=>by simp at h
 |(k,u)::l,h=>by
  rw[jS]at h;cases e:x==k with
   |true=>
    rw[e]at h;obtain rfl:x=k:=by simpa using e
    cases h;exact cj
   |false=>rw[e]at h;exact cF _ (lookup_mem h)
theorem lookup_none{a:Type}{x:Str}:∀{l:List (Str×a)},l.lookup x=none->x∉l.map (·.1)
 |[],_=>by simp
 |(k,u)::l,h=>by
  rw[jS]at h;cases e:x==k with
   |true=>rw[e]at h;cases h
   |false=>
    rw[e]at h;have :=lookup_none h;have e:¬x=k:=by simpa using e
    simp only[dQ,gF,not_or];exact⟨e,this⟩
inductive Shp(w:Str):Prop where|aO(h1:bG.lookup w=none)(h2:du w= .aO)|var(h1:bG.lookup w=some [])(h2:w="var")|name(h1:bG.lookup w=some [])(h2:w="name")|Zp(s:Str)(h1:bG.lookup w=some (s.cps.toList.map ZA))(h2:du w= .str s)(h3:w≠"var")(h4:w≠"name")(h5:∀c∈s.cps.toList,c=107\/c=116)(h6:s.cps.size<=4)
theorem Rg{tab:List (Key×V)}{w:Str}(h:∀k∈tab.map (·.1),k≠Sum.inr w):d9 tab (Sum.inr w:Key)=none:=by cases e:d9 tab (Sum.inr w:Key)with|none=>rfl|some v=>exact absurd rfl (h _ (Q9 e))
noncomputable def RW(k:Key)(l:List Str):Bool:=match k with| .inr x=>decide (x∈l)| .inl _=>true
theorem shp(w:Str):Shp w:=by
 cases h:bG.lookup w with
  |none=>
   refine .aO h ?_;have i:=lookup_none h;have sub:∀tab:List (Key×V),(tab.map (·.1)).all (λk=>RW k (bG.map (·.1)))=true->d9 tab (Sum.inr w:Key)=none:=λtab ht=>Rg λk f z=>by subst z;have :=List.all_eq_true.mp ht _ f;simp only[RW,decide_eq_true_eq]at this;exact i this
   have e1:=sub Z9 (by decide+kernel);have e2:=sub Zm (by decide+kernel);have e3:=sub YL (by decide+kernel);unfold du;rw[e1,e2,e3];rfl
  |some ds=>
   have m:=lookup_mem h;have g:=List.all_eq_true.mp Ri _ m;unfold To at g;by_cases a:w="var";·subst a;exact .var (by decide+kernel) rfl
   ·by_cases hn:w="name";·subst hn;exact .name (by decide+kernel) rfl
    ·cases e:du w with|str s=>rw[e]at g;simp only[a,hn,if_false,bD,List.all_eq_true,Bool.or_eq_true,beq_iff_eq,decide_eq_true_eq]at g;obtain⟨b,c,d⟩:=g;exact .Zp s (by rw[h,d]) e a hn c b|_=>rw[e]at g;simp at g
noncomputable def dj(x:Str):Bool:=decide (x="var")||decide (x="name")
noncomputable def az(x:Str)(ps:List D):List D:=if dj x=true then[]else ps
def gE:Sp:=λvs H Q _=>∃(x:Str)(ps:List D)(v:V),vs=[v]/\Rep H (.tup (.str x::ps)) v/\ps.length<=10/\∀(a:Addr)(us:List V)(H':Hp),H a=none->ay H H'->H' a=some (.lst us)->bg H' (az x ps) us->Q (.ref a) H'
theorem ER:aC ["thing"] ["thing"] (ai jI):=⟨rfl,rfl,rfl,by decide+kernel,rfl,by decide+kernel,by decide+kernel⟩
theorem JD(D:Df K mg "kids_of" jI ["thing"])(M:Mg mg t):bO P w K mg b_ "kids_of" (1) ["thing"] gE:=by
 refine D.ok ER (λvs H Q E h=>?_) (λbase f bS A outer s H vs Q E u h=>?_);·obtain⟨x,ps,v,rfl,_⟩:=h;rfl
 obtain⟨x,ps,v,rfl,r,hl,q⟩:=h;obtain⟨a,us,rfl,ha,B,us,rfl,⟨rfl,y⟩,i⟩:=r;have o:=i.length;have e:Du (V.str x::us) 0=some (.str x):=aH (j:=0) rfl;have d:bQ K H a (.str x::us):=bQ.of ha;refine⟨_,(aj (bj (L2.PW.pt (oO (aG cx (aZ aW (pv 0) au (λ_ _=>rfl)) aN (aJ _)) (jj (aG cx (aZ aW (pv 0) au (λ_ _=>rfl)) aN (aJ _))))) (ak (aB (gy ah))) aK) (ak (aB (eJ xF rfl M.UW Qv (aa (mS Ha (pv 0) (lQ au) zK) ah))))),?_⟩;try dsimp only[iG,n]
 refine pG ?_;intro _ _;have leaf:dj x=true->0<=sizeLine/\∀p,H p=none->Q (.ref p) (upd H p (.lst [])):=λc=>⟨dA _,λp b=>q p [] _ b (av b _) aq (by unfold az;rw[if_pos c];exact rfl)⟩;refine⟨_,rfl,a,_,_,_,rfl,rfl,d,e,rfl,_,rfl,?_⟩;refine a_ (λc=>?_) (λc=>?_);·refine dS ?_;have c:V.str x=V.str "var":=of_decide_eq_true c;cases c;exact leaf rfl
 refine⟨_,rfl,a,_,_,_,rfl,rfl,d,e,rfl,_,rfl,?_⟩;refine a_ (λc2=>?_) (λc2=>?_);·have c2:V.str x=V.str "name":=of_decide_eq_true c2;cases c2;exact leaf (by decide+kernel)
 have m:dj x=false:=by unfold dj;have h1:x≠"var":=λz=>c (by rw[z];decide+kernel);have h2:x≠"name":=λz=>c2 (by rw[z];decide+kernel);simp[h1,h2]
 have k:az x ps=ps:=by unfold az;rw[m];rfl
 rw[k]at q;have g:iZ (V.str x::us) (some 1) none=us:=by have :=xb (V.str x::us) 1;simpa using this
 refine⟨_,rfl,_,rfl,a,_,rfl,d,λp b=>?_,λz=>?_⟩;·rw[g];refine⟨p,us,rfl, .inr (bQ.of aq),λl hl=>?_⟩;exact q l us _ ((av b _).free hl) ((av b _).trans (av hl _)) aq (i.mono ((av b _).trans (av hl _)))
 ·rw[g]at z;exact absurd (congrArg List.length z) (by simp)
theorem mG{a:D->Bool}:∀{cs:List Nat}{ps:List D},eK a cs ps=true->cs.length=ps.length|[],[],_=>rfl|[],_::_,h=>by simp[eK]at h|_::_,[],h=>by simp[eK]at h|c::cs,p::ps,h=>by rw[aP,bD]at h;rw[dY,dY,mG h.2]
noncomputable def Xg(c:Nat):Bool:=!(Builtin.Str.occurrences (Str.ofString "kt") ⟨#[c]⟩ 0 (Str.ofString "kt").length 1).isEmpty
theorem kt1:Xg 107=true:=by decide+kernel
theorem kt2:Xg 116=true:=by decide+kernel
theorem kt3:Xg 110=false:=by decide+kernel
theorem kt4:Xg 119=false:=by decide+kernel
theorem bF{f:D->Bool}{k:Bool}{x:Str}{ps:List D}(h:bz f k (.tup (.str x::ps))=true):∃s,du x= .str s/\dZ x=k/\eK f s.cps.toList ps=true/\s.cps.size<=4/\s.cps.toList.length=ps.length/\(∀c∈s.cps.toList,Xg c=!dj x)/\(dj x=false->∀c∈s.cps.toList,c=107\/c=116)/\∃r,bG.lookup x=some r/\r.length=(az x ps).length:=by
 have d:∀s,du x= .str s->dZ x=k/\eK f s.cps.toList ps=true:=λs e=>by rw[bz,e,bD]at h;exact⟨by simpa using h.1,h.2⟩
 cases shp x with
  |aO h1 h2=>rw[bz,h2]at h;simp at h
  |var h1 h2=>subst h2;obtain⟨b,a⟩:=d _ fA;refine⟨_,fA,b,a,by decide,mG a,λc hc=>?_,λz=>absurd z (by decide+kernel),_,h1,by unfold az;rw[if_pos (by decide+kernel)];rfl⟩;rw[CM]at hc;rw[List.mem_singleton.mp hc,kt3];decide+kernel
  |name h1 h2=>subst h2;obtain⟨b,a⟩:=d _ fQ;refine⟨_,fQ,b,a,by decide,mG a,λc hc=>?_,λz=>absurd z (by decide+kernel),_,h1,by unfold az;rw[if_pos (by decide+kernel)];rfl⟩;rw[Gr]at hc;rw[List.mem_singleton.mp hc,kt4];decide+kernel
  |Zp s h1 h2 h3 h4 h5 h6=>
   obtain⟨b,a⟩:=d s h2;have g:dj x=false:=by unfold dj;simp[h3,h4]
   refine⟨s,h2,b,a,h6,mG a,λc hc=>?_,λ_=>h5,_,h1,?_⟩
   ·rw[g];rcases h5 c hc with z|z<;>rw[z];·exact kt1
    ·exact kt2
   ·unfold az;rw[g,cy,mG a];rfl
theorem E5{a:Type}{n:Nat}:(List.range n).filterMap (λ_=>(none:Option a))=[]:=by simp
end K62
end
section
namespace K62
open PySem L2 L3 KM PyProof.Rows
seal L2.PE L2.PS L2.gR L2.PT L2.PW L2.PA L2.PG L2.zI L2.PI L2.PC L2.PO L2.E_ L2.PK L3.zD
variable{P:Program}{w:World}{K:PySem.W.Frag}{mg:Str->Option Value}{base:Heap}{t:wQ}
noncomputable def BO:List (Str×V):=[("all", .int 1),("some", .int 1),("fun", .int 1),("rec", .int 0),("carry", .int 0)]
noncomputable def jZ(x:Str):V:=(KTD.datumAt x BO).getD .aO
noncomputable def mw(x:Str)(i:Nat):V:=if decide (V.int i=jZ x)=true then .int 1 else .int 0
noncomputable def DN(x:Str)(n:Nat):List V:=(List.range n).map (mw x)
def yX:Sp:=λvs H Q _=>∃(x:Str)(ps:List D)(v:V)(k:Bool),vs=[v]/\Rep H (.tup (.str x::ps)) v/\bz ar k (.tup (.str x::ps))=true/\∀(a:Addr)(H':Hp),ay H H'->H' a=some (.lst (DN x (az x ps).length))->Q (.ref a) H'
theorem JH(x:Str)(i:Int):NA (.int i) (jZ x)=true:=by
 unfold jZ;cases e:KTD.datumAt x BO with
  |none=>rfl
  |some v=>
   have :v= .int 1\/v= .int 0:=by
    simp only[KTD.datumAt,BO]at e;repeat' split at e
    all_goals first|(cases e;exact .inl rfl)|(cases e;exact .inr rfl)|cases e
   rcases this with z|z<;>rw[z]<;>rfl
theorem oR:aC ["thing","over"] ["thing"] (ai fW):=⟨rfl,rfl,rfl,by decide+kernel,rfl,by decide+kernel,by decide+kernel⟩
theorem Ej(D:Df K mg "binds_of" fW ["thing"])(M:Mg mg t){as:List Addr}(T:KD K t.iY bG as)(B:iy K t.eV BO):bO P w K mg b_ "binds_of" (1) ["thing"] yX:=by
 refine D.ok oR (λvs H Q E h=>?_) (λbase f bS A outer s H vs Q E S h=>?_);·obtain⟨x,ps,v,k,rfl,_⟩:=h;rfl
 obtain⟨x,ps,v,k,rfl,r,wf,q⟩:=h;obtain⟨a,us,rfl,ha,Z,us,rfl,⟨rfl,X⟩,G⟩:=r;have O:=G.length;have m:Du (V.str x::us) 0=some (.str x):=aH (j:=0) rfl;have o:bQ K H a (.str x::us):=bQ.of ha;obtain⟨Y,U,J,W,h4,hlen,L,_,d,F,u⟩:=bF wf;obtain⟨b,y,z⟩:=T.some F;have hn:(az x ps).length<=4:=by
  unfold az;split;·exact dA _
  ·rw[<-hlen];simpa using h4
 refine⟨_,(aj (aR (i:=1) oR.nd rfl (dq rfl) (MU (e_ M.g_BINDER_OVER rfl) (aZ aW (pv 0) au (λ_ _=>rfl)) ⟨rfl,rfl,rfl,rfl⟩)) (ak (aB (g8 (N':=["number","over"]) (own:=1) (fr:=[1]) rfl (iN (N:=["thing","over"]) (sc:=ai fW) rfl rfl rfl (by decide+kernel)) (gJ rfl M.lR (aa (aM aF rfl M.cK bU (aa (NP (e_ M.g_KIDS_DUE rfl) (aZ aW (pv 0) au (λ_ _=>rfl)) (λ_ _=>rfl)) ah)) ah)) (fX (by decide)) (λ_ _ _=>(bx (i:=0) (show List.Nodup (["number","over"]:List Str)by decide+kernel) rfl (Or.inl rfl))) (λ_ _ _=>lM) (λ_ _ _=>(f7 (aG cx (pv 0) (pv 1) (aJ _)) au au)))))),?_⟩;try dsimp only[iG,I]
 refine pG ?_;intro _ _;refine⟨_,_,rfl,B,_,rfl,a,_,_,_,rfl,rfl,o,m,x,rfl,?_⟩;refine⟨_,rfl,a,_,_,_,rfl,rfl,o,m,_,_,x,_,rfl,rfl,T.tab,y,b,_,rfl, .inr (z H),_,rfl,(by show-(2^62)<=((d.length:Nat):Int);omega),(by show((d.length:Nat):Int)<2^62;omega),λp C=>nq d.length (mw x) C (by rw[u];exact cq hn (by decide)) (λi g hi s2=>⟨hi,?_⟩) λg s2 h2=>⟨bf _,?_⟩⟩
 ·rintro x' l⟨rfl,rfl⟩R n;have e0:(0:Int)+(i:Int)=((i:Nat):Int):=by omega
  rw[e0];refine⟨_,rfl,_,rfl,JH x i,_,rfl,?_⟩;refine a_ (λc=>?_) (λc=>?_)
  ·have e:mw x i= .int 1:=by unfold mw;exact if_pos c
   have :=n l (ay.refl _);rw[e]at this;exact this
  ·have e:mw x i= .int 0:=by unfold mw;exact if_neg c
   have :=n l (ay.refl _);rw[e]at this;exact this
 ·rw[u]at h2;exact q p g s2 h2
theorem uP(x:Str):∀ws:List Str,Xu (.str x) (ws.map V.str)=decide (x∈ws)
 |[]=>rfl
 |y::ws=>by
  have a:=uP x ws;unfold Xu at a⊢;rw[dQ,List.any_cons,a];show(y==x||decide (x∈ws))=decide (x∈y::ws);by_cases e:y=x;·subst e;simp
  ·have e':¬x=y:=λz=>e z.symm;simp[e,e']
theorem wI:∀ws:List Str,(ws.map V.str).all i7=true|[]=>rfl|y::ws=>by rw[dQ,List.all_cons,wI ws];rfl
mutual noncomputable def wide:D->Prop| .tup ds=>ds.length<=4000000/\KP ds|_=>True noncomputable def KP:List D->Prop|[]=>True|d::ds=>wide d/\KP ds end
theorem w6:∀{ds:List D}{i:Nat}{d:D},KP ds->ds[i]?=some d->wide d|[],_,_,_,e=>by simp at e|_::_,0,_,h,e=>by simp at e;subst e;exact h.1|_::ds,i+1,d,h,e=>w6 (i:=i) h.2 (by simpa using e)
theorem jv:∀{ps:List D}{i:Nat}{p:D},ps[i]?=some p->depth p<=aw ps|[],_,_,e=>by simp at e|p::ps,0,_,e=>by simp at e;subst e;simp only[aw];omega|_::ps,i+1,p,e=>by have :=jv (ps:=ps) (i:=i) (by simpa using e);simp only[aw];omega
def rl(n:Nat):Sp:=λvs H Q _=>∃(d:D)(v u:V),vs=[v,u]/\Rep H d v/\Rep H d u/\wide d/\depth d<n/\∀H',ay H H'->Q (.bl true) H'
theorem yu:aC ["_law_told","_law_due"] ["_law_told","_law_due"] (ai dN):=⟨rfl,rfl,rfl,by decide+kernel,rfl,by decide+kernel,by decide+kernel⟩
theorem As{n:Nat}(D:Df K mg "_law_alike" dN ["_law_told","_law_due"])(M:Mg mg t)(C:bO P w K mg b_ "_law_alike" (n) ["_law_told","_law_due"] (rl n)):bO P w K mg b_ "_law_alike" (n+1) ["_law_told","_law_due"] (rl (n+1)):=by
 refine D.ok yu (λvs H Q E h=>?_) (λbase f bS A outer s H vs Q E m h=>?_);·obtain⟨d,v,u,rfl,_⟩:=h;rfl
 obtain⟨d,v,u,rfl,e,g,hw,hd,q⟩:=h;have O:=Bu m;refine⟨_,(aj (bj (dz (aM cI rfl M.cn bX (aa (pv 1) (aa (oF M.lT i4 rfl) ah)))) (aj (bj (L2.PW.pt (oO (fH (dz (aM cI rfl M.cn bX (aa (pv 0) (aa (oF M.lT i4 rfl) ah))))) (jj (aG Gn (aM aF rfl M.cK bU (aa (pv 0) ah)) (aM aF rfl M.cK bU (aa (pv 1) ah)) (aJ _))))) (ak (aB xf)) aK) (ak (aB (cA (T7 O) (g8 (N':=["_law_k","_law_told","_law_due"]) (own:=1) (fr:=[0,1]) rfl (iN (N:=["_law_told","_law_due"]) (sc:=ai dN) rfl rfl rfl (by decide+kernel)) (gJ rfl M.lR (aa (aM aF rfl M.cK bU (aa (pv 1) ah)) ah)) (fX (by decide)) (λ_ _ _=>(bx (i:=0) (show List.Nodup (["_law_k","_law_told","_law_due"]:List Str)by decide+kernel) rfl (Or.inl rfl))) (λ_ _ _=>(zc (fH (dz (aV C m.m rfl bh (aa (aZ (HP (K:=K)) (pv 1) (pv 0) (λ_ _=>rfl)) (aa (aZ (HP (K:=K)) (pv 2) (pv 0) (λ_ _=>rfl)) ah))))))) (λ_ _ _=>(pv 0))) (gy ah) (aJ _))))) aK) (ak (aB (nH (cA cx (aM cI rfl M.cn bX (aa (pv 0) (aa (oF M.E6 yY rfl) ah))) (aM cI rfl M.cn bX (aa (pv 1) (aa (oF M.E6 yY rfl) ah))) (aJ _)) (nU (cA cx (pv 0) (pv 1) (aJ _))))))),?_⟩;try dsimp only[iG,cQ]
 refine pG ?_;intro _ _;refine⟨_,rfl,_,_,_,_,rfl,g.ty,zS _ d,_,rfl,?_⟩;refine a_ (λc=>?_) (λc=>?_)
 ·cases d with
   |tup ds=>
    obtain⟨a,vs,rfl,ha,o⟩:=id e;obtain⟨b,us,rfl,hb,r⟩:=id g;have la:=o.length;have lb:=r.length;refine⟨_,rfl,_,_,_,_,rfl,e.ty,zS _ (.tup ds),_,rfl,ff ?_⟩;refine⟨_,rfl,a,_,rfl, .inr (bQ.of ha),_,rfl,b,_,rfl, .inr (bQ.of hb),rfl,_,rfl,?_⟩;rw[la,lb];refine YU rfl ?_;have hsz:ds.length<=sizeLine:=cq hw.1 (by decide);have hw1:=hw.1;refine⟨_,rfl,b,_,rfl, .inr (bQ.of hb),_,rfl,(by show-(2^62)<=((us.length:Nat):Int);omega),(by show((us.length:Nat):Int)<2^62;omega),λp L=>Dq us.length (λ_=>none) L (by rw[lb];exact hsz) (λi F hi s2=>⟨hi,?_⟩) λF s2 h2=>⟨bf _,?_⟩⟩
    ·rintro x' H3⟨rfl,rfl⟩R R0 hR I;have e0:(0:Int)+(i:Int)=((i:Nat):Int):=by omega
     obtain⟨j,k⟩:∃j,ds[i]?=some j:=⟨_,dR (by omega)⟩;obtain⟨B,T,Y⟩:=o.get k;obtain⟨y,S,X⟩:=r.get k;have J:depth j<n:=by have :=jv k;simp only[depth]at hd;omega
     refine⟨_,rfl,_,rfl,a,_,_,B,rfl,rfl,bQ.of (s2 _ _ ha),(by rw[e0];exact aH T),_,rfl,_,rfl,b,_,_,y,rfl,rfl,bQ.of (s2 _ _ hb),(by rw[e0];exact aH S),j,B,y,rfl,Y.mono s2,X.mono s2,w6 hw.2 k,J,λG Z=>⟨_,rfl,?_⟩⟩;exact ff (I G rfl Z)
    ·rw[E5]at h2;refine⟨by show 0<=sizeLine;decide,λW l=>⟨p,W,_,_,rfl,rfl,bI.of (by rw[aI (aD h2 l)];exact h2),bI.of aq,rfl,rfl,?_⟩⟩;exact q _ (s2.trans (av l _))
   |_=>cases c
 ·have hb:∀b:Bool,decide (V.bl b=V.bl b)=true:=λb=>decide_eq_true rfl;refine⟨_,rfl,_,_,_,_,rfl,e.ty,Ee _ d,_,rfl,_,_,_,_,rfl,g.ty,Ee _ d,rfl,?_⟩;refine⟨true,by rw[hb],dS ⟨_,rfl,_,rfl,?_⟩⟩;have fin:∀z:V,NA z z=true->NA z z=true/\Q (.bl (decide (z=z))) H:=λz U=>⟨U,by rw[decide_eq_true rfl];exact q H (ay.refl H)⟩;cases d with|aO=>cases(show v=V.aO from e);cases(show u=V.aO from g);exact fin _ rfl|bl b=>cases(show v=V.bl b from e);cases(show u=V.bl b from g);exact fin _ rfl|int i=>cases(show v=V.int i from e);cases(show u=V.int i from g);exact fin _ rfl|str x=>cases(show v=V.str x from e.1);cases(show u=V.str x from g.1);exact fin _ rfl|tup ds=>exact absurd rfl c
theorem n5(D:Df K mg "_law_alike" dN ["_law_told","_law_due"])(M:Mg mg t):∀n:Nat,bO P w K mg b_ "_law_alike" (n) ["_law_told","_law_due"] (rl n)|0=>bO.never D λvs H Q E⟨d,v,u,_,_,_,_,h,_⟩=>absurd h (Nat.not_lt_zero _)|n+1=>As D M (n5 D M n)
mutual noncomputable def plc:D->List (List Nat)| .tup (.str x::ps)=>[]::(if dj x=true then[]else X9 0 ps)|_=>[]noncomputable def X9:Nat->List D->List (List Nat)|_,[]=>[]|i,d::ds=>(plc d).map (i::·)++X9 (i+1) ds end
noncomputable def XW(pl:List Nat):D:= .tup (pl.map λi=> .int (i:Nat))
theorem cz{a:D->Bool}{k:Bool}:∀{d:D},bz a k d=true->∃x ps,d= .tup (.str x::ps)| .tup (.str x::ps),_=>⟨x,ps,rfl⟩| .tup [],h=>by simp[bz]at h| .tup (.aO::_),h=>by simp[bz]at h| .tup (.bl _::_),h=>by simp[bz]at h| .tup (.int _::_),h=>by simp[bz]at h| .tup (.tup _::_),h=>by simp[bz]at h| .aO,h=>by simp[bz]at h| .bl _,h=>by simp[bz]at h| .int _,h=>by simp[bz]at h| .str _,h=>by simp[bz]at h
theorem HR{a:D->Bool}:∀{cs:List Nat}{ps:List D}{i:Nat}{p:D},eK a cs ps=true->(∀c∈cs,c=107\/c=116)->ps[i]?=some p->∃k,bz a k p=true
 |[],[],_,_,_,_,e=>by simp at e
 |[],_::_,_,_,h,_,_=>by simp[eK]at h
 |_::_,[],_,_,h,_,_=>by simp[eK]at h
 |c::cs,q::ps,0,p,h,hc,e=>by
  simp at e;subst e;rw[aP,bD]at h;have h1:=h.1;unfold eE at h1;rcases hc c cj with z|z;·rw[z,if_pos rfl]at h1;exact⟨true,h1⟩
  ·rw[z,if_neg (by decide),if_pos rfl]at h1;exact⟨false,h1⟩
 |c::cs,q::ps,i+1,p,h,hc,e=>by rw[aP,bD]at h;exact HR (i:=i) h.2 (λc b=>hc c (cF _ b)) (by simpa using e)
theorem i_{k:Bool}{x:Str}{ps:List D}{i:Nat}{p:D}(h:bz ar k (.tup (.str x::ps))=true)(e:(az x ps)[i]?=some p):(∃k,bz ar k p=true)/\depth p<depth (.tup (.str x::ps)):=by
 obtain⟨s,h1,h2,h3,h4,h5,h6,a,_⟩:=bF h;unfold az at e;split at e;·simp at e
 ·rename_i b;refine⟨HR h3 (a (by simpa using b)) e,?_⟩;have :=jv e;simp only[depth,aw];omega
theorem MC{k:Bool}{x:Str}{ps:List D}(h:bz ar k (.tup (.str x::ps))=true):(az x ps).length<=4:=by
 obtain⟨s,h1,h2,h3,h4,h5,h6,a,_⟩:=bF h;unfold az;split;·exact dA _
 ·rw[<-h5];simpa using h4
structure Rt(d:D)(n:Nat):Prop where
 wf:∃k,bz ar k d=true
 dp:depth d<n
 ct:(plc d).length<=2000000
 n60:n<=60
theorem xJ{a:D->Bool}{b c:D}(d:bz a false b=true)(h1:bz a false c=true):bz a false (.tup [.str "app",b,c])=true:=by refine jn (w:="app") (s:="tt") (by decide+kernel) (by decide+kernel) ?_;rw[show(Str.ofString "tt").cps.toList=[116,116]by decide+kernel,aP,aP];simp[eE,eK,d,h1]
theorem UI{a:D->Bool}{b c d e:D}(f:bz a true b=true)(h1:bz a false c=true)(h2:bz a false d=true)(h3:bz a false e=true):bz a false (.tup [.str "rec",b,c,d,e])=true:=by refine jn (w:="rec") (s:="kttt") (by decide+kernel) (by decide+kernel) ?_;rw[show(Str.ofString "kttt").cps.toList=[107,116,116,116]by decide+kernel,aP,aP,aP,aP];simp[eE,eK,f,h1,h2,h3]
theorem QM{a:D->Bool}:bz a false (.tup [.str "zero"])=true:=by refine jn (w:="zero") (s:="") (by decide+kernel) (by decide+kernel) ?_;rw[show(Str.ofString "").cps.toList=[]by decide+kernel];simp[eE,eK]
theorem OL{b:D->Bool}{a:D}(c:bz b false a=true):bz b false (.tup [.str "next",a])=true:=by refine jn (w:="next") (s:="t") (by decide+kernel) (by decide+kernel) ?_;rw[show(Str.ofString "t").cps.toList=[116]by decide+kernel,aP];simp[eE,eK,c]
theorem fe{H:Hp}{p:Addr}{ds:List D}{vs:List V}(a:H p=none)(r:bg H ds vs):Rep (upd H p (.tup vs)) (.tup ds) (.ref p):=⟨p,vs,rfl,aq,r.mono (av a _)⟩
theorem rs{H:Hp}{d:D}{v:V}{ds:List D}{vs:List V}(r:Rep H d v)(t:bg H ds vs):bg H (d::ds) (v::vs):=⟨v,vs,rfl,r,t⟩
theorem r0{H:Hp}:bg H [] []:=rfl
theorem OJ{H:Hp}{x:Str}(h:x.length<=1000:=by decide):Rep H (.str x) (.str x):=⟨rfl,h⟩
theorem ri{H:Hp}{i:Int}:Rep H (.int i) (.int i):=rfl
structure Th(d:D)(dp kn:Nat):Prop where
 wf:bz ar false d=true
 dp:depth d<=dp
 kn:aX d<=kn
def Wf(d:D):Prop:=∃k,bz ar k d=true
theorem tX{d:D}(h:Wf d):∃x ps k,d= .tup (.str x::ps)/\bz ar k d=true/\ps.length<=10:=by obtain⟨k,h⟩:=h;obtain⟨x,ps,rfl⟩:=cz h;obtain⟨a,_,_,_,h4,h5,_⟩:=bF h;refine⟨x,ps,k,rfl,h,?_⟩;rw[<-h5];exact cq (by simpa using h4) (by decide)
end K62
end
section
namespace K62
open PySem L2 L3 KM
seal L2.PE L2.PS L2.gR L2.PT L2.PW L2.PA L2.PG L2.zI L2.PI L2.PC L2.PO L2.E_ L2.PK L3.zD
variable{P:Program}{w:World}{K:PySem.W.Frag}{mg:Str->Option Value}{base:Heap}{t:wQ}
theorem sizeLine_eq:sizeLine=16777216:=by decide
def okH(d:D):Prop:=d= .aO\/d= .tup []\/∃x,d= .str x
mutual noncomputable def MX:D->Prop| .tup []=>True| .tup (h::ps)=>okH h/\okL ps/\ps.length<=20|_=>True noncomputable def okL:List D->Prop|[]=>True|p::ps=>MX p/\okL ps end
mutual theorem Nl:∀{k:Bool}{d:D},bz ar k d=true->MX d
 |k, .tup (.str x::ps),h=>by
  obtain⟨s,e1,e2,e3,e4,e5,_⟩:=bF h;refine⟨.inr (.inr ⟨x,rfl⟩),LW e3,?_⟩;have :s.cps.toList.length=s.cps.size:=by simp
  omega
 |k, .tup [],h=>by simp[bz]at h
 |k, .tup (.aO::_),h=>by simp[bz]at h
 |k, .tup (.bl _::_),h=>by simp[bz]at h
 |k, .tup (.int _::_),h=>by simp[bz]at h
 |k, .tup (.tup _::_),h=>by simp[bz]at h
 |k, .aO,h=>by simp[bz]at h
 |k, .bl _,h=>by simp[bz]at h
 |k, .int _,h=>by simp[bz]at h
 |k, .str _,h=>by simp[bz]at h theorem LW:∀{cs:List Nat}{ps:List D},eK ar cs ps=true->okL ps
 |[],[],_=>trivial
 |[],_::_,h=>by simp[eK]at h
 |_::_,[],h=>by simp[eK]at h
 |c::cs,p::ps,h=>by
  rw[aP,bD]at h;refine⟨?_,LW h.2⟩;have h:=h.1;unfold eE at h;by_cases c1:c=107;·rw[if_pos c1]at h;exact Nl h
  ·rw[if_neg c1]at h;by_cases c2:c=116;·rw[if_pos c2]at h;exact Nl h
   ·rw[if_neg c2]at h;cases p<;>first|trivial|(simp[jP,ar]at h;done)end
theorem Mv:∀{ds:List D},MX (.tup ds)->ds.length<=21|[],_=>by simp|_::ps,h=>by have :=h.2.2;simp;omega
theorem Hz:∀{ps:List D}{p:D},okL ps->p∈ps->MX p
 |[],_,_,e=>by simp at e
 |q::ps,p,h,e=>by
  rcases List.mem_cons.mp e with rfl|e;·exact h.1
  ·exact Hz h.2 e
theorem YC:∀{d:D},MX d->∀x∈tk d,MX x
 | .tup [],_,x,a=>by simp[tk]at a
 | .tup (h::ps),ok,x,a=>by
  have hm:x∈h::ps:=(List.mem_filter.mp a).1;rcases List.mem_cons.mp hm with rfl|hm;·rcases ok.1 with rfl|rfl|⟨y,rfl⟩<;>simp[MX]
  ·exact Hz ok.2.1 hm
 | .aO,_,x,a=>by simp[tk]at a
 | .bl _,_,x,a=>by simp[tk]at a
 | .int _,_,x,a=>by simp[tk]at a
 | .str _,_,x,a=>by simp[tk]at a
theorem M6:∀(n:Nat)(l:List D),(∀x∈l,MX x)->∀x∈lv n l,MX x|0,_,h=>h|n+1,l,h=>M6 n _ λx a=>by obtain⟨d,hd,a⟩:=List.mem_flatMap.mp a;exact YC (h d hd) x a
noncomputable def fV(d:D):Bool:=!(decide (aX d<=600)&&decide (depth d<=40))
def Kc:Sp:=λvs H Q _=>∃ds v,vs=[v]/\Rep H (.tup ds) v/\MX (.tup ds)/\0<=aX (.tup ds)/\∀H',ay H H'->Q (.bl (fV (.tup ds))) H'
noncomputable def je(ds:List D)(vs:List V)(j:Nat):Option V:=if isTup ((ds[j]?).getD .aO)then vs[j]? else none
theorem xx{H:Hp}:∀{ds:List D}{vs:List V},bg H ds vs->bg H (ds.filter isTup) ((List.range vs.length).filterMap (je ds vs))
 |[],_,r=>by have r:_=[]:=r;subst r;exact rfl
 |d::ds,_,⟨v,vr,e,q,t⟩=>by
  subst e;have a:=xx t;rw[dY,List.range_succ_eq_map,List.filterMap_cons,List.filterMap_map];have e:(je (d::ds) (v::vr)∘Nat.succ)=je ds vr:=by funext j;simp[je]
  rw[e];by_cases hd:isTup d=true
  ·rw[List.filter_cons_of_pos hd];have e0:je (d::ds) (v::vr) 0=some v:=by simp[je,hd]
   simp only[e0];exact⟨v,_,rfl,q,a⟩
  ·rw[List.filter_cons_of_neg hd];have e0:je (d::ds) (v::vr) 0=none:=by simp[je,hd]
   simp only[e0];exact a
theorem lX(ds:List D):∀x∈[D.tup ds],isTup x=true:=λx a=>by rw[List.mem_singleton.mp a];rfl
theorem nI(ds:List D):aY [D.tup ds]=aX (.tup ds):=by simp[aY]
theorem Ji(ds:List D):aw [D.tup ds]=depth (.tup ds):=by simp[aw]
theorem T8(i:Nat)(ds:List D):(lv i [D.tup ds]).length<=aX (.tup ds):=by have h:=tR (i+1) [D.tup ds] (lX ds);rw[nI]at h;simp only[fK]at h;omega
theorem vX(l:List D)(j:Nat):((l.take j).flatMap tk).length<=(l.flatMap tk).length:=by
 have e:l.flatMap tk=(l.take j).flatMap tk++(l.drop j).flatMap tk:=by rw[<-List.flatMap_append,List.take_append_drop]
 rw[e,iQ];omega
theorem BL{L:Nat}:∀(l:List D),(∀d∈l,(tk d).length<=L)->(l.flatMap tk).length<=l.length*L|[],_=>by simp|d::l,h=>by rw[List.flatMap_cons,iQ,dY,Nat.add_mul,Nat.one_mul];have :=BL l λx a=>h x (cF _ a);have :=h d cj;omega
theorem Wj{d:D}(h:MX d):(tk d).length<=21:=by cases d with|tup es=>exact cq (List.length_filter_le _ _) (Mv h)|_=>simp[tk]
theorem KN{ds:List D}{i:Nat}(h:600<fK i [D.tup ds]):fV (.tup ds)=true:=by have :=tR i [D.tup ds] (lX ds);rw[nI]at this;unfold fV;rw[decide_eq_false (by omega)];rfl
theorem LS{ds:List D}(h:fK 40 [D.tup ds]<=600):fV (.tup ds)=decide (0<(lv 40 [D.tup ds]).length):=by
 have e:=IX [D.tup ds] (lX ds);rw[nI,Ji]at e;unfold fV;by_cases c:lv 40 [D.tup ds]=[];·obtain⟨a,b⟩:=e.mp ⟨h,c⟩;rw[decide_eq_true a,decide_eq_true b,c];rfl
 ·have :¬(aX (.tup ds)<=600/\depth (.tup ds)<=40):=λz=>c (e.mpr z).2;have hl:0<(lv 40 [D.tup ds]).length:=List.length_pos_iff.mpr c;rw[decide_eq_true hl];by_cases a:aX (.tup ds)<=600;·rw[decide_eq_false λb=>this ⟨a,b⟩,Bool.and_false];rfl
  ·rw[decide_eq_false a];rfl
theorem cV:aC ["value","level","knots","depth","below","knot"] ["value"] (ai gH):=⟨rfl,rfl,rfl,by decide+kernel,rfl,by decide+kernel,by decide+kernel⟩
theorem JS(D:Df K mg "is_vast" gH ["value"])(M:Mg mg t):bO P w K mg b_ "is_vast" (1) ["value"] Kc:=by
 refine D.ok cV (λvs H Q E h=>?_) (λbase f bS A outer s H vs Q E hr h=>?_);·obtain⟨d,v,rfl,_⟩:=h;rfl
 obtain⟨ds,v,rfl,r,ok,hk,q⟩:=h;refine⟨_,(aj (aR (i:=1) cV.nd rfl (dq rfl) (gy (aa (pv 0) ah))) (aj (aR (i:=2) cV.nd rfl (dq rfl) au) (aj (gD PassesOwn.never rfl (gJ rfl M.lR (aa (my M.g_MOST_DEEP rfl) ah)) (bx (i:=3) cV.nd rfl (dq rfl)) (aj (zZ (i:=2) cV.nd rfl (dq rfl) (aM aF rfl M.cK bU (aa (pv 1) ah)) yl) (aj (bj (aG oX (pv 2) (my M.g_MOST_KNOTS rfl) (aJ _)) (ak (aB xf)) aK) (aj (aR (i:=4) cV.nd rfl (dq rfl) (gy ah)) (aj (gD PassesOwn.never rfl (sA (pv 1)) (bx (i:=5) cV.nd rfl (dq rfl)) (ak (jD (xh PySem.F.plainAttrs_list PySem.F.slot_list_extend PySem.F.type_list_extend Jh (pv 4) (aa (g8 (N':=["part"]) (own:=1) (fr:=[]) rfl (iN (N:=["value","level","knots","depth","below","knot"]) (sc:=ai gH) rfl rfl rfl (by decide+kernel)) (tL (pv 5)) (fX (by decide)) (λ_ _ _=>(bx (i:=0) (show List.Nodup (["part"]:List Str)by decide+kernel) rfl (Or.inl rfl))) (λ_ _ _=>(zc (dz (aM (Ak (K:=K)) rfl M.cn bX (aa (pv 0) (aa (oF M.lT i4 rfl) ah)))))) (λ_ _ _=>(pv 0))) ah))))) (ak (aR (i:=1) cV.nd rfl (dq rfl) (pv 4)))))))) (ak (aB (cA oX (aM aF rfl M.cK bU (aa (pv 1) ah)) au (aJ _))))))),?_⟩;try dsimp only[iG,cQ]
 refine JK ?_;intro _ _ _ _;refine⟨_,rfl,(gZ rfl),λO OS=>?_⟩;have e1:(upd H O (.lst [v])) O=some (.lst [v]):=aq;have s1:ay H (upd H O (.lst [v])):=av OS _;refine⟨40,rfl,by decide,by decide,JJ (n:=40) (λi C H'=>∃(q:Addr)(us:List V)(W L g:Option V),C=[some v,some (.ref q),some (.int (fK i [KM.D.tup ds])),W,L,g]/\H' q=some (.lst us)/\bg H' (lv i [KM.D.tup ds]) us/\fK i [KM.D.tup ds]<=600/\ay H H') ?_ ?_ ?_⟩;·exact⟨O,[v],none,none,none,rfl,e1,bg.one (r.mono s1),by simp[fK],s1⟩
 ·rintro i C l hi⟨F,us,W,L,g,rfl,I,S,hup,s2⟩;have Xe:=S.length;have lvl:=T8 i ds;refine⟨_,rfl,_,rfl,F,us,rfl, .inl (bI.of I),_,_,rfl,rfl,?_⟩;have eu:((fK i [KM.D.tup ds]:Nat):Int)+((us.length:Nat):Int)=((fK (i+1) [KM.D.tup ds]:Nat):Int):=by simp only[fK];omega
  show cg _ _ _ [some v,some (.ref F),some (.int (((fK i [KM.D.tup ds]:Nat):Int)+((us.length:Nat):Int))),some (.int (0+(i:Int))),L,g] l;rw[eu];refine⟨_,rfl,_,_,rfl,rfl,_,rfl,?_⟩;refine a_ (λc=>?_) (λc=>?_);·have c:(600:Int)<((fK (i+1) [KM.D.tup ds]:Nat):Int):=of_decide_eq_true c;have e:=KN (ds:=ds) (i:=i+1) (by omega);rw[e]at q;exact q l s2
  have c:¬(600:Int)<((fK (i+1) [KM.D.tup ds]:Nat):Int):=of_decide_eq_false (Bool.eq_false_iff.mpr c);refine⟨by show 0<=sizeLine;decide,λm hq4=>?_⟩;have e4:(upd l m (.lst [])) m=some (.lst []):=aq;have s4:ay l (upd l m (.lst [])):=av hq4 _;refine⟨_,rfl,F,rfl,⟨us,bI.of (s4 _ _ I)⟩,L_ (xs:=us) (λj C H'=>∃(bs:List V)(g:Option V),C=[some v,some (.ref F),some (.int (fK (i+1) [KM.D.tup ds])),some (.int (0+(i:Int))),some (.ref m),g]/\H' m=some (.lst bs)/\bg H' (((lv i [KM.D.tup ds]).take j).flatMap tk) bs/\ay l H') ?_ ?_ ?_ ?_⟩;·exact⟨[],g,rfl,e4,by simp[bg],s4⟩
  ·rintro j C H' _⟨bs,g,rfl,h4,G,s'⟩;exact bI.of (s' _ _ I)
  ·rintro j u C H5 hu⟨bs,g,rfl,h4,G,T⟩;obtain⟨d,hd,rd⟩:=S.get' hu;have htd:=G6 i [KM.D.tup ds] (lX ds) d (vI hd);obtain⟨es,rfl⟩:∃es,d= .tup es:=by cases d<;>first|exact⟨_,rfl⟩|cases htd
   obtain⟨a,ws,rfl,ha,X⟩:=rd.mono T;have hsz:ws.length<=sizeLine:=by have h1:=X.length;have h2:=Mv (M6 i [KM.D.tup ds] (λx y=>by rw[List.mem_singleton.mp y];exact ok) _ (vI hd));rw[sizeLine_eq];omega
   refine⟨_,rfl, .inl ⟨rfl,_,bI.of h4⟩,_,rfl,a,rfl,⟨ws,bQ.of ha⟩,λp hp=>Dq ws.length (je es ws) hp hsz (λk U hk6 B=>?_) λU B h6=>?_⟩
   ·obtain⟨wk,J⟩:∃x,ws[k]?=some x:=⟨_,dR hk6⟩;have hqa:bQ K U a ws:=bQ.of (B _ _ ha);refine⟨⟨ws,wk,hqa,J⟩,?_⟩;rintro x' Y⟨rfl,hy⟩R R0 hR hR0;have y:=hy ws hqa;rw[J]at y;cases y;obtain⟨dk,hdk,rk⟩:=X.get' J;refine⟨_,rfl,_,_,_,_,rfl,(Rep.mono B rk).ty,zS _ dk,_,rfl,?_⟩;refine a_ (λc=>?_) (λc=>?_);·exact⟨_,rfl,hR wk Y (by simp[je,hdk,c,J]) (ay.refl _)⟩
    ·exact hR0 Y (by simp[je,hdk,c]) (ay.refl _)
   ·have lb:=G.length;have Z:=B _ _ h4;have n4:m≠p:=aD h4 hp;have hl:(lv i [KM.D.tup ds]).take (j+1)=(lv i [KM.D.tup ds]).take j++[KM.D.tup es]:=by rw[List.take_add_one,hd];rfl
    have hfl:((lv i [KM.D.tup ds]).take (j+1)).flatMap tk=((lv i [KM.D.tup ds]).take j).flatMap tk++es.filter isTup:=by rw[hl,List.flatMap_append];simp[tk]
    have rpk:=xx (X.mono B);have lpk:=rpk.length;have lfl:=vX (lv i [KM.D.tup ds]) (j+1);rw[<-sd,hfl,iQ]at lfl;have lv1:(lv (i+1) [KM.D.tup ds]).length<=600*21:=by rw[sd];refine cq (BL _ λx y=>Wj (M6 i [KM.D.tup ds] (λx y=>by rw[List.mem_singleton.mp y];exact ok) x y)) (Nat.mul_le_mul_right _ ?_);simp only[fK]at c;omega
    have np:∀vs,U m≠some (.tup vs):=λvs z=>by rw[Z]at z;cases z
    refine⟨⟨ws,bQ.of (B _ _ ha),bf _⟩,m,p,_,_,rfl,rfl,Z,h6,?_,?_⟩;·rw[lb,lpk,sizeLine_eq];omega
    ·refine⟨_,_,rfl,aq,?_,λb o hb=>?_⟩;·rw[hfl];exact bg.gX (eR.upd _) np ((G.mono B).append rpk)
     ·rw[aI (aD hb hq4)];exact B _ _ (T _ _ hb)
  ·rintro C H5⟨bs,g,rfl,h4,G,T⟩;rw[C2 (by omega),<-sd]at G;refine⟨_,rfl,m,bs,_,_,_,rfl,h4,G,by omega,s2.trans T⟩
 ·rintro C l⟨F,us,W,L,g,rfl,I,S,hup,s2⟩;refine⟨_,rfl,F,us,rfl, .inl (bI.of I),_,_,rfl,rfl,?_⟩;have e:decide ((0:Int)<((us.length:Nat):Int))=fV (.tup ds):=by rw[LS hup,S.length];simp
  show Q (.bl (decide ((0:Int)<((us.length:Nat):Int)))) l;rw[e];exact q l s2
end K62
end
section
namespace K62
open PySem L2 L3 KM PyProof.Rows
seal L2.PE L2.PS L2.gR L2.PT L2.PW L2.PA L2.PG L2.zI L2.PI L2.PC L2.PO L2.E_ L2.PK L3.zD
variable{P:Program}{w:World}{K:PySem.W.Frag}{mg:Str->Option Value}{base:Heap}{t:wQ}
theorem Jx{k:Bool}{x:Str}{ps:List D}(h:bz ar k (.tup (.str x::ps))=true)(g:dj x=true):∀(i:Nat)(p:D),ps[i]?=some p->isTup p=false/\(jP p=true\/ar p=true):=by
 obtain⟨s,h1,h2,h3,h4,h5,h6,l,_⟩:=bF h;have hc:∀(cs:List Nat)(a:List D)(i:Nat),eK ar cs a=true->(∀c∈cs,Xg c=!dj x)->∀p,a[i]?=some p->isTup p=false/\(jP p=true\/ar p=true):=λcs=>by
  induction cs with
   |nil=>intro a i hq _ p e;cases a with|nil=>simp at e|cons _ _=>simp[eK]at hq
   |cons c cs j=>
    intro a i hq f p e;cases a with
     |nil=>simp[eK]at hq
     |cons q a=>
      rw[aP,bD]at hq;cases i with
       |zero=>
        simp at e;subst e;have d:=f c cj;rw[g]at d;have b:=hq.1;unfold eE at b;rw[if_neg (λz=>by rw[z,kt1]at d;cases d),if_neg (λz=>by rw[z,kt2]at d;cases d)]at b;split at b;·exact⟨by cases q<;>simp[jP]at b<;>rfl, .inl b⟩
        ·exact⟨by cases q<;>simp[ar]at b<;>rfl, .inr b⟩
       |succ i=>exact j a i hq.2 (λc hc=>f c (cF _ hc)) p (by simpa using e)
 exactλi p e=>hc _ ps i h3 h6 p e
theorem w_:∀(ps:List D),(∀(i:Nat)(p:D),ps[i]?=some p->isTup p=false)->aY ps=0/\aw ps=0
 |[],_=>⟨rfl,rfl⟩
 |p::ps,h=>by
  obtain⟨h1,h2⟩:=w_ ps λi q e=>h (i+1) q (by simpa using e);have a:=h 0 p rfl;have e1:aX p=0:=by cases p<;>first|rfl|simp[isTup]at a
  have e2:depth p=0:=by cases p<;>first|rfl|simp[isTup]at a
  simp[aY,aw,h1,h2,e1,e2]
theorem kE:∀ps:List D,aY ps=(ps.map aX).sum|[]=>rfl|p::ps=>by simp[aY,kE ps]
theorem kT:∀ps:List D,aw ps=yG (ps.map depth)|[]=>rfl|p::ps=>by rw[aw,kT ps];rfl
theorem vg{k:Bool}{x:Str}{ps:List D}(h:bz ar k (.tup (.str x::ps))=true):aX (.tup (.str x::ps))=1+((az x ps).map aX).sum/\depth (.tup (.str x::ps))=1+yG ((az x ps).map depth):=by
 rw[<-kE,<-kT];have e1:aX (.tup (.str x::ps))=1+aY ps:=by simp[aX,aY]
 have e2:depth (.tup (.str x::ps))=1+aw ps:=by simp[depth,aw]
 rw[e1,e2];unfold az;by_cases a:dj x=true;·obtain⟨b,c⟩:=w_ ps λi p e=>(Jx h a i p e).1;rw[if_pos a,b,c];exact⟨rfl,rfl⟩
 ·rw[if_neg a];exact⟨rfl,rfl⟩
structure Rz(d:D)(n:Nat):Prop where
 wf:Wf d
 dp:depth d<n
 kn:0<=aX d
theorem Rz.kid{n:Nat}{x:Str}{ps:List D}{i:Nat}{p:D}(h:Rz (.tup (.str x::ps)) (n+1))(e:(az x ps)[i]?=some p):Rz p n:=by obtain⟨k,wf⟩:=h.wf;obtain⟨w1,w2⟩:=i_ wf e;have hd:=h.dp;exact⟨w1,by omega,dA _⟩
structure Rs(d:D)(n:Nat):Prop where
 wf:Wf d
 dp:depth d<n
 kn:aX d<=8000000
mutual noncomputable def ja:D->Bool| .int i=>decide (99<i)| .tup ds=>zN ds|_=>false noncomputable def zN:List D->Bool|[]=>false|d::ds=>ja d||zN ds end
theorem QN{ds:List D}:∀{ns:List Int},ns.length=ds.length->(∀(i:Nat)(z:Int),ns[i]?=some z->decide (99<z)=ja ((ds[i]?).getD .aO))->zN ds=ns.any λz=>decide (99<z):=by
 induction ds with
  |nil=>intro ns h _;cases ns with|nil=>rfl|cons _ _=>simp at h
  |cons d ds b=>intro ns h a;cases ns with|nil=>simp at h|cons z ns=>rw[zN,List.any_cons,b (by simpa using h) (λi z e=>by simpa using a (i+1) z (by simpa using e)),a 0 z rfl];rfl
theorem any_max(b:Int):∀(ns:List Int)(d:Int),d<=b->decide (b<maxD ns d)=ns.any λz=>decide (b<z)|[],d,h=>by show decide (b<d)=false;exact decide_eq_false (by omega)|a::r,d,_=>by show decide (b<r.foldl Ul a)=_;rw[List.any_cons];induction r generalizing a with|nil=>exact(Bool.or_false _).symm|cons c r e=>rw[List.foldl_cons,e,List.any_cons,<-Bool.or_assoc];congr 1;unfold Ul;by_cases h1:b<a<;>by_cases h2:b<c<;>simp[h1,h2]<;>split<;>omega
theorem Mh{x:Str}{ps:List D}{k:Bool}(wf:bz ar k (.tup (.str x::ps))=true)(a:dj x=true)(d:x≠"var"):∀(i:Nat)(p:D),ps[i]?=some p->ja p=false:=λi p e=>by
 have a:x="name":=by unfold dj at a;simp[d]at a;exact a
 subst a;obtain⟨f,e1,_,e3,_,b,_⟩:=bF wf;rw[fQ]at e1;cases e1;rw[Gr]at e3 b;cases ps with
  |nil=>simp at e
  |cons c rest=>
   cases rest with
    |cons _ _=>simp at b
    |nil=>
     rw[aP,bD]at e3;have hn:ar c=true:=by simpa[eE]using e3.1
     cases i with|succ i=>simp at e|zero=>simp at e;subst e;cases c<;>first|rfl|simp[ar]at hn
theorem OF{x:Str}{ps:List D}{k:Bool}{ns:List Int}{d:Int}(wf:bz ar k (.tup (.str x::ps))=true)(e:x≠"var")(hd:d<=99)(hl:ns.length=(az x ps).length)(c:∀(i:Nat)(z:Int),ns[i]?=some z->decide (99<z)=ja (((az x ps)[i]?).getD .aO)):decide (99<maxD ns d)=ja (.tup (.str x::ps)):=by
 rw[any_max 99 ns d hd,<-QN hl c];show _=(false||zN ps);rw[Bool.false_or];unfold az;split
 ·rename_i f;symm;show zN ps=false;have j:∀a:List D,(∀p∈a,ja p=false)->zN a=false:=λa=>by induction a with|nil=>intro _;rfl|cons q a g=>intro h;rw[zN,h q cj,g λp b=>h p (cF _ b)];rfl
  refine j ps λp b=>?_;obtain⟨i,hi,rfl⟩:=List.mem_iff_getElem.mp b;exact Mh wf f e i _ (dR hi)
 ·rfl
def GY(n:Nat):Sp:=λvs H Q _=>∃(d:D)(v:V),vs=[v]/\Rep H d v/\Rz d n/\∀(i:Int)(H':Hp),decide (99<i)=ja d->ay H H'->Q (.int i) H'
theorem pF:aC ["thing"] ["thing"] (ai cC):=⟨rfl,rfl,rfl,by decide+kernel,rfl,by decide+kernel,by decide+kernel⟩
theorem pL{n:Nat}(D:Df K mg "top_variable" cC ["thing"])(M:Mg mg t)(G:bO P w K mg b_ "kids_of" (1) ["thing"] gE)(I:bO P w K mg b_ "top_variable" (n+3) ["thing"] (GY n)):bO P w K mg b_ "top_variable" (n+4) ["thing"] (GY (n+1)):=by
 refine D.ok pF (λvs H Q E h=>?_) (λbase f bS A outer s H vs Q E u h=>?_);·obtain⟨d,v,rfl,_⟩:=h;rfl
 obtain⟨d,v,rfl,r,rz,q⟩:=h;obtain⟨x,ps,k,rfl,wf,W⟩:=tX rz.wf;have T:=MC wf;obtain⟨a,F,rfl,ha,v0,F,rfl,⟨rfl,o⟩,rp⟩:=id r;have L:Du (V.str x::F) 0=some (.str x):=aH (j:=0) rfl;refine⟨_,(aj (bj (aG cx (aZ aW (pv 0) au (λ_ _=>rfl)) aN (aJ _)) (ak (aB (aZ aW (pv 0) au (λ_ _=>rfl)))) aK) (ak (aB (QH M.Ru (aa (g8 (N':=["kid"]) (own:=1) (fr:=[]) rfl (iN (N:=["thing"]) (sc:=ai cC) rfl rfl rfl (by decide+kernel)) (sA (aV G u.m rfl bh (aa (pv 0) ah))) (fX (by decide)) (λ_ _ _=>(bx (i:=0) (show List.Nodup (["kid"]:List Str)by decide+kernel) rfl (Or.inl rfl))) (λ_ _ _=>lM) (λ_ _ _=>(aV I u.m rfl bh (aa (pv 0) ah)))) ah) (O1 au UK))))),?_⟩;try dsimp only[iG,cQ]
 refine pG ?_;intro _ _;refine⟨_,rfl,a,_,_,_,rfl,rfl,bQ.of ha,L,rfl,_,rfl,?_⟩;refine a_ (λc=>?_) (λc=>?_)
 ·have c:V.str x=V.str "var":=of_decide_eq_true c;cases c;obtain⟨sh,e1,_,e3,_,l,_⟩:=bF wf;rw[fA]at e1;cases e1;rw[CM]at e3 l;obtain⟨b,rfl⟩:∃b,ps=[b]:=by cases ps with|nil=>simp at l|cons b rest=>cases rest with|nil=>exact⟨b,rfl⟩|cons _ _=>simp at l
  rw[aP,bD]at e3;have hn:jP b=true:=by simpa[eE]using e3.1
  obtain⟨i,rfl⟩:∃i,b= .int i:=by cases b<;>first|exact⟨_,rfl⟩|simp[jP]at hn
  obtain⟨u1,us1,rfl,e,_⟩:=rp;cases(show u1=V.int i from e);have hi:decide (99<i)=ja (.tup [.str "var", .int i]):=by simp[ja,zN]
  exact⟨_,rfl,a,_,_, .int i,rfl,rfl,bQ.of ha,aH (j:=1) rfl,q i H hi (ay.refl H)⟩
 refine⟨_,rfl,x,ps,_,rfl,r,W,λZ us H1 _ s1 h1 e=>⟨Z,rfl,⟨us,bI.of h1⟩,λp2 U=>?_⟩⟩;have l1:=e.length;refine JO (az x ps).length (λi z=>decide (99<z)=ja (((az x ps)[i]?).getD .aO)) U (cq T (by decide)) (λi p hi s2=>?_) λns p s2 hl O h2=>⟨⟨us,bI.of (s2 _ _ h1),by omega⟩,?_⟩;·obtain⟨g,m⟩:∃g,(az x ps)[i]?=some g:=⟨_,dR hi⟩;obtain⟨C,B,Q4⟩:=e.get m;refine⟨⟨us,C,bI.of (s2 _ _ h1),B⟩,?_⟩;rintro y H3⟨rfl,X⟩R S;have o:=X us (bI.of (s2 _ _ h1));rw[B]at o;cases o;exact⟨_,rfl,g,C,rfl,Q4.mono s2,rz.kid m,λz J Y s4=>S z J s4 (by rw[m];exact Y)⟩
 ·refine⟨p2,ns,_,rfl,rfl,bI.of h2,?_⟩;exact q _ p (OF wf (λz=>c (by rw[z];exact decide_eq_true rfl)) (by decide) hl O) (s1.trans s2)
theorem fU(D:Df K mg "top_variable" cC ["thing"])(M:Mg mg t)(a:bO P w K mg b_ "kids_of" (1) ["thing"] gE):∀n:Nat,bO P w K mg b_ "top_variable" (n+3) ["thing"] (GY n)|0=>bO.never D λvs H Q E⟨d,v,_,_,h,_⟩=>absurd h.dp (Nat.not_lt_zero _)|n+1=>pL D M a (fU D M a n)
def jF(C:Addr)(n:Nat):Sp:=λvs H Q E=>∃(d:D)(v:V),vs=[v]/\Rep H d v/\Rz d n/\(∀H',ay H H'->(fV d||ja d)=false->Q v H')/\(∀H',ay H H'->(fV d||ja d)=true->E (.ref C) none H')
theorem DV:aC ["thing"] ["thing"] (ai jE):=⟨rfl,rfl,rfl,by decide+kernel,rfl,by decide+kernel,by decide+kernel⟩
theorem wA{n:Nat}(D:Df K mg "bounded" jE ["thing"])(M:Mg mg t)(j:jM K t.cw)(l:bO P w K mg b_ "is_vast" (1) ["value"] Kc)(o:bO P w K mg b_ "top_variable" (n+3) ["thing"] (GY n)):bO P w K mg (c7 P w) "bounded" (n+4) ["thing"] (jF t.cw n):=by
 refine D.xV DV (λvs H Q E h=>?_) (λbase f bS A outer s H vs Q E b h=>?_);·obtain⟨d,v,rfl,_⟩:=h;rfl
 obtain⟨d,v,rfl,r,rz,q,g⟩:=h;obtain⟨x,ps,k,rfl,wf,y⟩:=tX rz.wf;refine⟨_,(aj (bj (L2.PW.pt (oO (dz (aV l b.m rfl bh (aa (pv 0) ah))) (jj (aG oX (aV o b.m rfl bh (aa (pv 0) ah)) (my M.g_MOST_VARIABLE rfl) (aJ _))))) (ak (cB (G:=(λH'=>E (.ref t.cw) none H')) j M.g_Great (aa aN ah) (λpins σ H s e h' I m q=>da I m q))) aK) (ak (aB (pv 0)))),?_⟩;try dsimp only[iG,u]
 refine pG ?_;intro _ _;refine⟨_,rfl,_,v,rfl,r,Nl wf,rz.kn,λp s1=>⟨_,rfl,?_⟩⟩;refine a_ (λc=>dS ⟨by decide,g p s1 (by rw[c];rfl)⟩) (λc=>?_);refine⟨_,rfl,_,v,rfl,r.mono s1,rz,λi a hi s2=>⟨_,_,rfl,rfl,_,rfl,?_⟩⟩;have c:fV (.tup (.str x::ps))=false:=Bool.eq_false_iff.mpr c;refine a_ (λc2=>⟨by decide,g a (s1.trans s2) (by rw[<-hi,c];exact c2)⟩) (λc2=>⟨_,rfl,q a (s1.trans s2) (by rw[<-hi,c];exact Bool.eq_false_iff.mpr c2)⟩)
noncomputable abbrev Rb(d:D)(n:Nat):Prop:=Rz d n
noncomputable def bT(x:Str)(ps a:List D):D:=if a=[]then .tup (.str x::ps)else .tup (.str x::a)
def gN:Sp:=λvs H Q _=>∃(x:Str)(ps b:List D)(v:V)(a:Addr)(us:List V),vs=[v, .ref a]/\Rep H (.tup (.str x::ps)) v/\H a=some (.lst us)/\bg H b us/\b.length<=10/\∀(u:V)(H':Hp),ay H H'->Rep H' (bT x ps b) u->Q u H'
theorem EJ:aC ["thing","kids"] ["thing","kids"] (ai jy):=⟨rfl,rfl,rfl,by decide+kernel,rfl,by decide+kernel,by decide+kernel⟩
theorem JT(D:Df K mg "rebuilt" jy ["thing","kids"])(M:Mg mg t):bO P w K mg b_ "rebuilt" (1) ["thing","kids"] gN:=by
 refine D.ok EJ (λvs H Q E h=>?_) (λbase f bS A outer s H vs Q E C h=>?_);·obtain⟨x,ps,d,v,a,us,rfl,_⟩:=h;rfl
 obtain⟨x,ps,d,v,a,us,rfl,r,ha,e,hl,q⟩:=h;have n:=e.length;obtain⟨b,y,rfl,hb,G,y,rfl,⟨rfl,m⟩,F⟩:=id r;refine⟨_,(aj (bj (aG cx (aM aF rfl M.cK bU (aa (pv 1) ah)) au (aJ _)) (ak (aB (pv 0))) aK) (ak (aB (cR s_ (bJ (aa (aZ aW (pv 0) au (λ_ _=>rfl)) ah)) (eJ kf rfl M.lT i4 (aa (pv 1) ah)))))),?_⟩;try dsimp only[iG,B]
 refine pG ?_;intro _ _;refine⟨_,rfl,a,_,rfl, .inl (bI.of ha),rfl,_,rfl,?_⟩;refine a_ (λc=>?_) (λc=>?_)
 ·have c:V.int ((us.length:Nat):Int)=V.int 0:=of_decide_eq_true c;have hq:d=[]:=by injection c with c;exact List.length_eq_zero_iff.mp (by omega)
  refine⟨_,rfl,q _ H (ay.refl H) ?_⟩;unfold bT;rw[if_pos hq];exact r
 ·have hq:d≠[]:=λz=>c (by subst z;have :us.length=0:=n;rw[this];exact decide_eq_true rfl);refine⟨_,rfl,b,_,_,_,rfl,rfl,bQ.of hb,aH (j:=0) rfl,(gZ rfl),λo k=>?_⟩;have s1:=av k (.tup [V.str x]);refine⟨_,rfl,a,us,rfl, .inl ⟨bI.of (s1 _ _ ha),λp l=>?_⟩⟩;have s2:=av l (.tup us);refine⟨o,p,_,_,rfl,rfl,s2 _ _ aq,aq,?_,λu i g h3=>?_⟩;·rw[List.length_singleton,sizeLine_eq];omega
  ·refine q _ i (s1.trans (s2.trans g)) ?_;unfold bT;rw[if_neg hq];exact⟨u,_,rfl,h3,_,_,rfl,⟨rfl,m⟩,e.mono (s1.trans (s2.trans g))⟩
end K62
end
section
namespace L3
open PySem PySem.Spec PyProof.Rows L2 KM
def Dm(K:PySem.W.Frag)(C:Addr)(m qual:Str)(st:Stmt)(ps:List Str):Prop:=∃f fd,Om K m qual st f fd/\Meth K C m f/\Binds K fd ps []
noncomputable def jK(P:Program)(w:World)(K:PySem.W.Frag)(mg:Str->Option Value)(CX:kL)(C:Addr)(m:Str)(k:Nat)(ps:List Str)(sp:Sp):Prop:=∃f fd,(∀base,nA P w K mg base CX k f fd ps sp)/\Meth K C m f/\Binds K fd ps []
section
variable{P:Program}{w:World}{K:PySem.W.Frag}{mg:Str->Option Value}{C:Addr}{m qual:Str}{st:Stmt}{N ps:List Str}{k:Nat}{sp:Sp}
theorem Dm.ok(D:Dm K C m qual st ps)(S:aC N ps (ai st))(len:∀vs H Q E,sp vs H Q E->vs.length=ps.length)(a:∀(base:Heap)(f:Addr)(bS:Value)(A:Around)(outer:List Env)(s:Shared)(H:Hp)(vs:List V)(Q:VK)(E:XK),bY k (A.deeper (envOfC qual (ai st) s.heap.objs.size f bS))->sp vs H Q E->∃t,gR (dw b_ P w K mg base N qual (ai st) f bS A outer s H E).Gw (bu st) t/\t {nx:=λ_ H'=>Q .aO H',rt:=Q} (start N vs) H):jK P w K mg b_ C m (k+1) ps sp:=by obtain⟨f,fd,F,M,b⟩:=D;exact⟨f,fd,λbase=>F.ok S len (a base f),M,b⟩
theorem Dm.xV(D:Dm K C m qual st ps)(S:aC N ps (ai st))(len:∀vs H Q E,sp vs H Q E->vs.length=ps.length)(a:∀(base:Heap)(f:Addr)(bS:Value)(A:Around)(outer:List Env)(s:Shared)(H:Hp)(vs:List V)(Q:VK)(E:XK),bY k (A.deeper (envOfC qual (ai st) s.heap.objs.size f bS))->sp vs H Q E->∃t,gR (dw (c7 P w) P w K mg base N qual (ai st) f bS A outer s H E) (bu st) t/\t {nx:=λ_ H'=>Q .aO H',rt:=Q} (start N vs) H):jK P w K mg (c7 P w) C m (k+1) ps sp:=by obtain⟨f,fd,F,M,b⟩:=D;refine⟨f,fd,λbase=>?_,M,b⟩;obtain⟨oc,od,kV,doc,pm,an,bS,ct,A4,rfl,g,c⟩:=F.ex;exact B0 g c S len λA outer s H vs Q E d e=>a base f bS A outer s H vs Q E d e
end
section
variable{X:Cx}{CX:kL}{C:Addr}{m x:Str}{k:Nat}{ps:List Str}{sp:Sp}{E:XK}{o e:Expr}{es:List Expr}{ta:TE}{t:TA}{p pos apos:Pos}{pl:Sem Bool}
theorem Sr(F:jK X.prog X.w X.K X.mg CX C m k ps sp)(c:NO X.K C)(z:bY k X.A)(B:Passes CX X E)(w:PE X o ta)(ha:PA X (e::es) t)(A:starEach (e::es) X.env=(false,eval e X.env)::starEach es X.env:=by rfl)(y:(backTo pos (starEach es X.env)).any (·.1)=false:=by rfl)(ht:eval (.Call (.Attribute o m apos) (e::es) [] pos) X.env=(do let j<-eval o X.env;standAt apos.atName;let(f,first)<-holding [j] (getMethod j m pl);callWith pos f first (backTo pos (starEach (e::es) X.env)) (backToKw pos (keywordEach [] X.env))):=by rfl)(hc:X.calm=true:=by rfl):PE X (.Call (.Attribute o m apos) (e::es) [] pos) (SK C m sp [] E ta t):=by obtain⟨f,fd,F,hm,hb⟩:=F;intro pins s σ H Q I h;refine PySem.W.methodCall_KW (pl:=pl) (bH (w pins s σ H _ I h) λu s1 G=>?_) ht;obtain⟨x,n,i,D,a,dx,fs,ex,v,l,q⟩:=G;subst ex;obtain rfl:u=Value.ref a:=D;refine tP i v c hm l ?_;refine PySem.W.callWith_K (first:=[.ref a]) (h₀:=X.base) I.ok.mod.DD hm.kp (bH (ha pos pins s1 σ n _ i q) λus s2⟨vs,g,d,r,b⟩=>⟨d.gL,?_⟩) A y;have b:sp (.ref a::(vs++[])) g Q E:=b;rw[gc]at b;exact rM (us:= .ref a::us) (vs:= .ref a::vs) F z hb d hc (λe s' hc=>B pins σ g s2 e s' d hc) (.cons rfl r) b
theorem vy(F:jK X.prog X.w X.K X.mg CX C m k ps sp)(c:NO X.K C)(n:bY k X.A)(r:Passes CX X E)(j:PE X o ta)(ht:eval (.Call (.Attribute o m apos) [] [] pos) X.env=(do let g<-eval o X.env;standAt apos.atName;let(f,first)<-holding [g] (getMethod g m pl);callWith pos f first (backTo pos (starEach [] X.env)) (backToKw pos (keywordEach [] X.env))):=by rfl)(hc:X.calm=true:=by rfl):PE X (.Call (.Attribute o m apos) [] [] pos) (SK C m sp [] E ta Kd):=by obtain⟨f,fd,F,hm,hb⟩:=F;intro pins s σ H Q I h;refine PySem.W.methodCall_KW (pl:=pl) (bH (j pins s σ H _ I h) λu s1 w=>?_) ht;obtain⟨x,d,b,v,a,dx,fs,ex,i,l,q⟩:=w;subst ex;obtain rfl:u=Value.ref a:=v;refine tP b i c hm l ?_;have q:sp [.ref a] d Q E:=q;exact PySem.W.callWith_K0 (first:=[.ref a]) b.gL hm.kp (rM (us:=[.ref a]) (vs:=[.ref a]) F n hb b hc (λe s' hc=>r pins σ d s1 e s' b hc) (.cons rfl .nil) q)
end
structure MkC(K:PySem.W.Frag)(C f:Addr):Prop where
 makes:PySem.W.makesIn K C=true
 init:PySem.W.findIn K (.ref C) "__init__"=some (some (.ref f))
 fn:PySem.W.isFn K (.ref f)=true
 kp:PySem.W.keepIn K (.ref C)=true
noncomputable def Ph(P:Program)(w:World)(K:PySem.W.Frag)(mg:Str->Option Value)(x:Str)(C:Addr)(k:Nat)(ps:List Str)(sp:Sp):Prop:=∃f fd,(∀base,nA P w K mg base b_ k f fd ps sp)/\MkC K C f/\mg x=some (.ref C)/\Binds K fd ps []
section
variable{X:Cx}{C:Addr}{x:Str}{k:Nat}{ps:List Str}{sp:Sp}{e:Expr}{es:List Expr}{t:TA}{p pos:Pos}
theorem D8(F:Ph X.prog X.w X.K X.mg x C k ps sp)(w:bY (k+1) X.A)(n:Gl X x)(y:Passes b_ X E0)(ha:PA X (e::es) t)(l:(x==("__debug__":Str))=false:=by decide)(m:starEach (e::es) X.env=(false,eval e X.env)::starEach es X.env:=by rfl)(o:(backTo pos (starEach es X.env)).any (·.1)=false:=by rfl)(hc:X.calm=true:=by rfl):PE X (.Call (.Name x p) (e::es) [] pos) (Zn C sp [] E0 t):=by
 obtain⟨f,fd,F,M,hm,hb⟩:=F;intro pins B σ H0 Q c h;refine pM (fb c n hm ?_ l);refine PySem.W.callWith_K (h₀:=X.base) c.ok.mod.DD M.kp (bH (ha pos pins B σ H0 _ c h) λus s⟨vs,H,I,r,q⟩=>⟨I.gL,?_⟩) m o;have hq:=q (s.heap.objs.size+1) s.heap.objs.size (I.bK.fresh (Nat.le_succ _)) (I.bK.fresh (bf _)) (cW (Nat.lt_succ_self _));rw[gc]at hq;have b:=Inv.made (C:=C) I;have g:Vals (V.ref (s.heap.objs.size+1)::vs) (Value.ref (s.heap.objs.size+1)::us):= .cons rfl r;have hl:(Value.ref (s.heap.objs.size+1)::us).length=ps.length:=by rw[<-g.length];exact(F X.base).len _ _ _ _ hq
 have d:=hb _ (Value.ref (s.heap.objs.size+1)::us) b.gL (by rw[gc];exact hl);rw[gc]at d;refine wpAny_call (K1 (f:=f) I.gL M.makes M.init (beq_iff_eq.mp M.fn) (codeAny_mono ((F _).run _ X.stack _ _ ⟨Value.ref (s.heap.objs.size+1)::us,[]⟩ (Value.ref (s.heap.objs.size+1)::us) _ _ E0 (w.make C us []) ((Ez b hc).make C us []) d g hq) λr s' a=>?_));cases r with|error e=>exact y pins σ _ _ e s' b a|ok fl=>cases fl with|ret u=>obtain⟨v,H',i,A,j,z⟩:=b.after a;subst j;exact⟨A,⟨V.ref (s.heap.objs.size+1),H',i,rfl,z⟩⟩|next=>exact False.elim a|brk=>exact False.elim a|cont=>exact False.elim a
end
end L3
end
section
namespace K62
open PySem L2 L3 KM PyProof.Rows
seal L2.PE L2.PS L2.gR L2.PT L2.PW L2.PA L2.PG L2.zI L2.PI L2.PC L2.PO L2.E_ L2.PK L3.zD L3.SN L3.VG L3.tJ L3.PSg
variable{P:Program}{w:World}{K:PySem.W.Frag}{mg:Str->Option Value}{base:Heap}{t:wQ}
structure oJ(K:PySem.W.Frag)(C:Addr):Prop where
 cls:NO K C
 word:gB K C "word"
 name:gB K C "name"
 jz:gB K C "due"
 parts:gB K C "parts"
noncomputable def fmF(w n d:V)(p:Addr):List (Str×V):=[("word",w),("name",n),("due",d),("parts", .ref p)]
def AU(C:Addr):Sp:=λvs H Q _=>∃(x dx:Addr)(w n d:V),vs=[.ref x,w,n,d]/\H x=some (.ins C dx [])/\∀(p:Addr)(H':Hp),H p=none->p≠x->H' p=some (.lst [])->H' x=some (.ins C dx (fmF w n d p))->(∀b o,b≠x->H b=some o->H' b=some o)->Q .aO H'
theorem yU:aC ["self","word","name","due"] ["self","word","name","due"] (ai cG):=⟨rfl,rfl,rfl,by decide+kernel,rfl,by decide+kernel,by decide+kernel⟩
theorem c_Form_init(D:Dm K t.Form "__init__" "Form.__init__" cG ["self","word","name","due"])(M:Mg mg t)(aL:oJ K t.Form):jK P w K mg b_ t.Form "__init__" (1) ["self","word","name","due"] (AU t.Form):=by
 refine D.ok yU (λvs H Q E h=>?_) (λbase f bS A outer s H vs Q E j h=>?_);·obtain⟨x,dx,w,n,d,rfl,_⟩:=h;rfl
 obtain⟨x,dx,w,n,d,rfl,e,q⟩:=h;refine⟨_,(aj (xW (pv 0) (pv 1) rfl) (aj (xW (pv 0) (pv 2) rfl) (aj (xW (pv 0) (pv 3) rfl) (ak (xW (pv 0) (gy ah) rfl))))),?_⟩;try dsimp only[iG,i]
 refine JK ?_;intro _ _ _ _;refine⟨_,rfl,_,rfl,x,t.Form,dx,[],rfl,e,aL.cls,aL.word,(by decide),?_⟩;refine⟨_,rfl,_,rfl,x,t.Form,dx,_,rfl,aq,aL.cls,aL.name,(by show 1<1000;decide),?_⟩;refine⟨_,rfl,_,rfl,x,t.Form,dx,_,rfl,aq,aL.cls,aL.jz,(by show 2<1000;decide),?_⟩;refine⟨(gZ rfl),λp a=>?_⟩;rw[HU,HU]at a⊢;have c:p≠x:=λz=>by rw[z,aq]at a;cases a
 rw[aI c]at a;refine⟨_,rfl,x,t.Form,dx,_,rfl,(by rw[aI c.symm];exact aq),aL.cls,aL.parts,(by show 3<1000;decide),?_⟩;refine q p _ a c (by rw[aI c];exact aq) aq λb o hb h=>?_;have g:b≠p:=aD h a;rw[aI hb,aI g,aI hb];exact h
structure Fm(K:PySem.W.Frag)(C:Addr)(H:Hp)(x:Addr)(w n:V)(ds:List V)(p:Addr)(ps:List V):Prop where
 obj:∃(dx d:Addr),H x=some (.ins C dx (fmF w n (.ref d) p))/\bQ K H d ds
 parts:H p=some (.lst ps)
theorem Fm.mono{C x p:Addr}{H H':Hp}{w n:V}{ds ps:List V}(F:Fm K C H x w n ds p ps)(s:ay H H'):Fm K C H' x w n ds p ps:=by
 obtain⟨dx,d,a,hd⟩:=F.obj;refine⟨⟨dx,d,s _ _ a,?_⟩,s _ _ F.parts⟩;rcases hd with h|h;·exact .inl (h.imp (λh=>s _ _ h) λ⟨o,h⟩=>⟨o,s _ _ h⟩)
 ·exact .inr h
def yP(K:PySem.W.Frag)(C:Addr):Sp:=λvs H Q _=>∃(x p:Addr)(w n:V)(ds ps:List V),vs=[.ref x]/\Fm K C H x w n ds p ps/\Q (.bl (decide (ps.length=ds.length))) H
theorem pB:aC ["self"] ["self"] (ai bN):=⟨rfl,rfl,rfl,by decide+kernel,rfl,by decide+kernel,by decide+kernel⟩
theorem c_Form_is_full(D:Dm K t.Form "is_full" "Form.is_full" bN ["self"])(M:Mg mg t)(aL:oJ K t.Form):jK P w K mg b_ t.Form "is_full" (1) ["self"] (yP K t.Form):=by
 refine D.ok pB (λvs H Q E h=>?_) (λbase f bS A outer s H vs Q E c h=>?_);·obtain⟨x,p,w,n,ds,ps,rfl,_⟩:=h;rfl
 obtain⟨x,p,w,n,ds,ps,rfl,F,q⟩:=h;obtain⟨dx,d,a,hd⟩:=F.obj;refine⟨_,(ak (aB (cA cx (aM aF rfl M.cK bU (aa (eF (pv 0) rfl) ah)) (aM aF rfl M.cK bU (aa (eF (pv 0) rfl) ah)) (aJ _)))),?_⟩;try dsimp only[iG,b]
 refine⟨_,rfl,x,t.Form,dx,_,_,rfl,a,aL.cls,aL.parts,rfl,p,_,rfl, .inl (bI.of F.parts),_,rfl,x,t.Form,dx,_,_,rfl,a,aL.cls,aL.jz,rfl,d,_,rfl, .inr hd,rfl,?_⟩;have e:decide (V.int ((ps.length:Nat):Int)=V.int ((ds.length:Nat):Int))=decide (ps.length=ds.length):=by
  by_cases h:ps.length=ds.length;·rw[h];simp
  ·rw[decide_eq_false h];exact decide_eq_false λz=>h (by injection z with z;omega)
 rw[e];exact q
def ub(K:PySem.W.Frag)(C N:Addr):Sp:=λvs H Q E=>∃(x p a:Addr)(w n:V)(ds ps us:List V)(y:Str),vs=[.ref x, .ref a]/\Fm K C H x w n ds p ps/\H a=some (.tup (.str y::us))/\ps.length<1000/\(ps.length=ds.length->E (.ref N) none H)/\(∀b:Str,ds[ps.length]?=some (.str b)->dZ y≠decide (b="kind")->E (.ref N) none H)/\(ps.length≠ds.length->∃b:Str,ds[ps.length]?=some (.str b)/\(dZ y=decide (b="kind")->∀H',H' p=some (.lst (ps++[.ref a]))->eR p H H'->Q .aO H'))
theorem x9:aC ["self","thing"] ["self","thing"] (ai cH):=⟨rfl,rfl,rfl,by decide+kernel,rfl,by decide+kernel,by decide+kernel⟩
theorem c_Form_take(D:Dm K t.Form "take" "Form.take" cH ["self","thing"])(M:Mg mg t)(aL:oJ K t.Form)(i:jM K t.bp)(T:m4 K t.g7 [.str "nat", .str "none", .str "all", .str "some", .str "same"])(l:jK P w K mg b_ t.Form "is_full" (1) ["self"] (yP K t.Form)):jK P w K mg (c7 P w) t.Form "take" (2) ["self","thing"] (ub K t.Form t.bp):=by
 refine D.xV x9 (λvs H Q E h=>?_) (λbase f bS A outer s H vs Q E r h=>?_);·obtain⟨x,p,a,w,n,ds,ps,us,y,rfl,_⟩:=h;rfl
 obtain⟨x,p,a,w,n,ds,ps,us,y,rfl,F,ha,hlen,e1,e2,q⟩:=h;obtain⟨dx,d,g,hd⟩:=id F.obj;refine⟨_,(aj (bj (dz (vy l aL.cls r.m bh (pv 0))) (ak (cB (G:=(λH'=>E (.ref t.bp) none H')) i M.g_NoText (aa aN ah) (λpins σ H s e h' I m q=>da I m q))) aK) (aj (bj (aG Gn (cA m8 (aZ aW (pv 1) au (λ_ _=>rfl)) (e_ M.g_KIND_WORDS rfl) rfl) (cA cx (aZ aW (eF (pv 0) rfl) (aM aF rfl M.cK bU (aa (eF (pv 0) rfl) ah)) (λ_ _=>rfl)) aN (aJ _)) (aJ _)) (ak (cB (G:=(λH'=>E (.ref t.bp) none H')) i M.g_NoText (aa aN ah) (λpins σ H s e h' I m q=>da I m q))) aK) (ak (jD (xh PySem.F.plainAttrs_list PySem.F.slot_list_append PySem.F.type_list_append gY (eF (pv 0) rfl) (aa (pv 1) ah)))))),?_⟩;try dsimp only[iG,u]
 refine xD ?_;intro _ _ _;refine⟨_,rfl,x,dx,_,rfl,g,rfl,x,p,w,n,ds,ps,rfl,F,_,rfl,a_ (λc=>?_) (λc=>?_)⟩;·exact⟨by decide,e1 (of_decide_eq_true c)⟩
 have c:ps.length≠ds.length:=λz=>c (decide_eq_true z);obtain⟨b,k,q⟩:=q c;have e2:=e2 b k;have o:decide (V.str b=V.str "kind")=decide (b="kind"):=by
  by_cases h:b="kind";·rw[h];simp
  ·rw[decide_eq_false h];exact decide_eq_false λz=>h (by injection z)
 refine⟨_,rfl,a,_,_,_,rfl,rfl,bQ.of ha,aH (j:=0) rfl,t.g7,_,rfl, .inr (.inr T),rfl,rfl,_,rfl,x,t.Form,dx,_,_,rfl,g,aL.cls,aL.jz,rfl,_,rfl,x,t.Form,dx,_,_,rfl,g,aL.cls,aL.parts,rfl,p,_,rfl, .inl (bI.of F.parts),d,_,_,_,rfl,rfl,hd,aH k,rfl,rfl,_,rfl,?_⟩;rw[o];show if(!decide (V.bl (dZ y)=V.bl (decide (b="kind"))))=true then _ else _;refine a_ (λc2=>?_) (λc2=>?_);·refine⟨by decide,e2 λz=>?_⟩;rw[z]at c2;simp at c2
 ·have c2:dZ y=decide (b="kind"):=by
   have :decide (V.bl (dZ y)=V.bl (decide (b="kind")))=true:=by simpa using c2
   have :=of_decide_eq_true this;injection this
  refine⟨_,rfl,x,t.Form,dx,_,_,rfl,g,aL.cls,aL.parts,rfl, .inl ⟨rfl,_,bI.of F.parts⟩,_,rfl,p,_,_,rfl,rfl,F.parts,(by rw[sizeLine_eq];omega),?_⟩;exact q c2 _ aq (eR.upd _)
noncomputable def abc:Str:="abcdefghijklmnopqrstuvwxyz"
noncomputable def C9(c:Nat):Bool:=!(Builtin.Str.occurrences abc ⟨#[c]⟩ 0 abc.length 1).isEmpty
noncomputable def j7:D->Bool| .str x=>decide ((1:Int)<=x.length)&&(decide ((x.length:Int)<=12)&&((bG.lookup x).isNone&&x.cps.toList.all C9))|_=>false
def va:Sp:=λvs H Q _=>∃d v,vs=[v]/\Rep H d v/\∀H',ay H H'->Q (.bl (j7 d)) H'
theorem DK(x:Str):((List.range x.cps.size).map λi=>V.bl (C9 ((x.cps[i]?).getD 0)))=(x.cps.toList.map C9).map V.bl:=by
 apply List.ext_getElem?;intro i;by_cases h:i<x.cps.size;·simp[h]
 ·simp[h]
theorem Ea:aC ["value"] ["value"] (ai gW):=⟨rfl,rfl,rfl,by decide+kernel,rfl,by decide+kernel,by decide+kernel⟩
theorem II(D:Df K mg "is_name" gW ["value"])(M:Mg mg t){as:List Addr}(T:KD K t.iY bG as):bO P w K mg b_ "is_name" (1) ["value"] va:=by
 refine D.ok Ea (λvs H Q E h=>?_) (λbase f bS A outer s H vs Q E n h=>?_);·obtain⟨d,v,rfl,_⟩:=h;rfl
 obtain⟨d,v,rfl,r,q⟩:=h;refine⟨_,(aj (bj (L2.PW.pt (oO (fH (dz (aM cI rfl M.cn bX (aa (pv 0) (aa (oF M.Ti K8 rfl) ah))))) (jj (fH (BJ HM HM au (aM lj rfl M.cK bU (aa (pv 0) ah)) (my M.g_MOST_LETTERS rfl)))))) (ak (aB xf)) aK) (ak (aB (nH (cA ly (pv 0) (e_ M.g_KIDS_DUE rfl) rfl) (nU (aM (lY rfl) rfl M.SM Lm (aa (g8 (N':=["sign"]) (own:=1) (fr:=[]) rfl (iN (N:=["value"]) (sc:=ai gW) rfl rfl rfl (by decide+kernel)) (Mo (pv 0)) (fX (by decide)) (λ_ _ _=>(bx (i:=0) (show List.Nodup (["sign"]:List Str)by decide+kernel) rfl (Or.inl rfl))) (λ_ _ _=>lM) (λ_ _ _=>(cA xt (pv 0) (G0 M.g_LETTERS rfl) rfl))) ah))))))),?_⟩;try dsimp only[iG,m]
 refine pG ?_;intro _ _;refine⟨_,rfl,_,_,_,_,rfl,r.ty,Qs _ d,_,rfl,?_⟩;refine a_ (λc=>dS ?_) (λc=>?_)
 ·have e:j7 d=false:=by cases d<;>first|rfl|(simp[ar]at c)
  rw[e]at q;exact q H (ay.refl H)
 ·obtain⟨x,rfl⟩:∃x,d= .str x:=by cases d<;>first|exact⟨_,rfl⟩|(simp[ar]at c)
  obtain⟨rfl,l⟩:=r;have e0:j7 (.str x)=(decide ((1:Int)<=x.length)&&(decide ((x.length:Int)<=12)&&((bG.lookup x).isNone&&x.cps.toList.all C9))):=rfl;rw[e0]at q;have hsz:x.length<=sizeLine:=cq l (by decide);refine⟨_,rfl,x,rfl,hsz,_,_,rfl,rfl,_,rfl,?_⟩;refine a_ (λc1=>?_) (λc1=>⟨_,rfl,dS ?_⟩)
  ·refine⟨_,_,rfl,rfl,_,rfl,?_⟩;refine a_ (λc2=>?_) (λc2=>?_)
   ·have c2:decide ((x.length:Int)<=12)=false:=by simpa using c2
    rw[c2,Bool.false_and,Bool.and_false]at q;exact q H (ay.refl H)
   ·have c2:decide ((x.length:Int)<=12)=true:=by simpa using c2
    rw[c1,c2,Bool.true_and,Bool.true_and]at q;refine⟨_,rfl,x,_,_,rfl,rfl,T.tab,_,rfl,?_⟩;rw[T.DG];refine a_ (λa=>?_) (λa=>?_)
    ·have a:(bG.lookup x).isNone=true:=by cases e:bG.lookup x<;>simp[e]at a⊢
     rw[a,Bool.true_and]at q;refine⟨_,rfl,x,rfl,λp k=>nq x.cps.size (λi=>V.bl (C9 ((x.cps[i]?).getD 0))) k hsz (λi b hi s2=>⟨hi,?_⟩) λb s2 h2=>⟨bf _,p,x.cps.toList.map C9,rfl,bI.of (by rw[<-DK];exact h2),?_⟩⟩;·rintro o g⟨rfl,c,hc,rfl⟩R j;refine⟨_,rfl,_,_,rfl,rfl,?_⟩;have :=j g (ay.refl _);rw[hc]at this;exact this
     ·have e:(x.cps.toList.map C9).all id=x.cps.toList.all C9:=by rw[List.all_map];rfl
      rw[e];exact q b s2
    ·have a:(bG.lookup x).isNone=false:=by cases e:bG.lookup x<;>simp[e]at a⊢
     rw[a,Bool.false_and]at q;exact q H (ay.refl H)
  ·have c1:decide ((1:Int)<=x.length)=false:=Bool.eq_false_iff.mpr c1;rw[c1,Bool.false_and]at q;exact q H (ay.refl H)
noncomputable def IS:Nat->D|0=> .tup [.str "zero"]|n+1=> .tup [.str "next",IS n]
def Gg:Sp:=λvs H Q _=>∃n:Nat,vs=[.int (n:Nat)]/\n<=1000/\∀(v:V)(H':Hp),ay H H'->Rep H' (IS n) v->Q v H'
theorem gw:aC ["number","thing","count"] ["number"] (ai il):=⟨rfl,rfl,rfl,by decide+kernel,rfl,by decide+kernel,by decide+kernel⟩
theorem Fd(D:Df K mg "count_of" il ["number"])(M:Mg mg t):bO P w K mg b_ "count_of" (1) ["number"] Gg:=by
 refine D.ok gw (λvs H Q E h=>?_) (λbase f bS A outer s H vs Q E r h=>?_);·obtain⟨n,rfl,_⟩:=h;rfl
 obtain⟨n,rfl,hn,q⟩:=h;refine⟨_,(aj (aR (i:=1) gw.nd rfl (dq rfl) (bJ (aa aN ah))) (aj (gD PassesOwn.never rfl (gJ rfl M.lR (aa (pv 0) ah)) (bx (i:=2) gw.nd rfl (dq rfl)) (ak (aR (i:=1) gw.nd rfl (dq rfl) (bJ (aa aN (aa (pv 1) ah)))))) (ak (aB (pv 1))))),?_⟩;try dsimp only[iG,p]
 refine xD ?_;intro _ _ _;refine⟨(gZ rfl),λa l=>?_⟩;refine⟨_,rfl,_,rfl,(by show-(2^62)<=((n:Nat):Int);omega),(by show((n:Nat):Int)<2^62;omega),?_⟩;have j:=av l (.tup [V.str "zero"]);have g:Rep (upd H a (.tup [V.str "zero"])) (IS 0) (.ref a):=⟨a,_,rfl,aq,_,_,rfl,⟨rfl,by decide+kernel⟩,rfl⟩;generalize upd H a (.tup [V.str "zero"])=H0 at j g⊢;let k:Nat->L2.St->Hp->Prop:=(λi c H'=>∃(v:V)(cv:Option V),c=[some (.int (n:Nat)),some v,cv]/\Rep H' (IS i) v/\ay H H');refine iU n k ?_ ?_ ?_;·exact⟨_,none,rfl,g,j⟩
 ·rintro i c d hi⟨v,cv,rfl,b,s1⟩;refine⟨(by show i<((n:Nat):Int).toNat;omega),?_⟩;rintro u o⟨rfl,rfl⟩;refine⟨_,rfl,(gZ rfl),λe m=>?_⟩;have t2:=av m (.tup [V.str "next",v]);exact⟨.ref e,_,rfl,⟨e,_,rfl,aq,⟨_,_,rfl,⟨rfl,by decide+kernel⟩,⟨_,_,rfl,b.mono t2,rfl⟩⟩⟩,s1.trans t2⟩
 ·rintro c d⟨v,cv,rfl,b,s1⟩;exact⟨(by show((n:Nat):Int).toNat<=n;omega),_,rfl,q v d s1 b⟩
noncomputable def DC(c:Nat):Bool:=decide (48<=c)&&decide (c<=57)
noncomputable def Al(z:Str):Bool:=decide (z.length<=2)&&(z.cps.toList.all DC&&(match PySem.intText? z with|some n=>decide (Str.ofString (toString n)=z)&&decide (n<=39)|none=>false))
theorem T9(c:Nat):(!(Builtin.Str.occurrences (Str.ofString "0123456789") ⟨#[c]⟩ 0 (Str.ofString "0123456789").length 1).isEmpty)=DC c:=by rw[StrLaws.found_one,show(Str.ofString "0123456789").cps.toList=[48,49,50,51,52,53,54,55,56,57]by decide+kernel];unfold DC;rw[Bool.eq_iff_iff];simp;omega
theorem Vo:((List.range 10).all λa=>match PySem.intText? ⟨#[48+a]⟩with|some n=>decide (0<=n)&&decide (n<1000)|none=>false)=true:=by decide+kernel
theorem VU:((List.range 10).all λa=>(List.range 10).all λb=>match PySem.intText? ⟨#[48+a,48+b]⟩with|some n=>decide (0<=n)&&decide (n<1000)|none=>false)=true:=by decide+kernel
theorem Ik{z:Str}(h1:1<=z.length)(h2:z.length<=2)(hd:z.cps.toList.all DC=true):∃n:Int,PySem.intText? z=some n/\0<=n/\n<1000:=by
 have hl:=str_len z;have g:z=tx z.cps.toList:=(ZQ z).symm;generalize z.cps.toList=l at hl hd g;have f:∀c,DC c=true->∃a,a<10/\c=48+a:=λc h=>by unfold DC at h;simp at h;exact⟨c-48,by omega,by omega⟩
 match l,hl,hd with
  |[c],hl,hd=>obtain⟨a,ha,rfl⟩:=f c (by simpa using hd);have :=List.all_eq_true.mp Vo a (List.mem_range.mpr ha);rw[g];show∃n:Int,PySem.intText? ⟨#[48+a]⟩=some n/\_;cases e:PySem.intText? ⟨#[48+a]⟩with|none=>rw[e]at this;cases this|some n=>rw[e]at this;simp at this;exact⟨n,rfl,this.1,this.2⟩
  |[c,d],hl,hd=>
   have hd:DC c=true/\DC d=true:=by simpa using hd
   obtain⟨a,ha,rfl⟩:=f c hd.1;obtain⟨b,hb,rfl⟩:=f d hd.2;have :=List.all_eq_true.mp (List.all_eq_true.mp VU a (List.mem_range.mpr ha)) b (List.mem_range.mpr hb);rw[g];show∃n:Int,PySem.intText? ⟨#[48+a,48+b]⟩=some n/\_;cases e:PySem.intText? ⟨#[48+a,48+b]⟩with|none=>rw[e]at this;cases this|some n=>rw[e]at this;simp at this;exact⟨n,rfl,this.1,this.2⟩
  |[],hl,_=>simp at hl;omega
  |_::_::_::_,hl,_=>simp at hl;omega
theorem Jo(x:Str):((List.range x.cps.size).map λi=>V.bl (DC ((x.cps[i]?).getD 0)))=(x.cps.toList.map DC).map V.bl:=by
 apply List.ext_getElem?;intro i;by_cases h:i<x.cps.size;·simp[h]
 ·simp[h]
def Te:Sp:=λvs H Q _=>∃z:Str,vs=[.str z]/\1<=z.length/\z.length<=100000/\∀H',ay H H'->Q (.bl (Al z)) H'
theorem AR:aC ["word"] ["word"] (ai eX):=⟨rfl,rfl,rfl,by decide+kernel,rfl,by decide+kernel,by decide+kernel⟩
theorem BY(D:Df K mg "is_figure" eX ["word"])(M:Mg mg t):bO P w K mg b_ "is_figure" (1) ["word"] Te:=by
 refine D.ok AR (λvs H Q E h=>?_) (λbase f bS A outer s H vs Q E o h=>?_);·obtain⟨z,rfl,_⟩:=h;rfl
 obtain⟨z,rfl,h1,h2,q⟩:=h;have hsz:z.length<=sizeLine:=by rw[sizeLine_eq];omega
 refine⟨_,(aj (bj (L2.PW.pt (oO (aG oX (aM lj rfl M.cK bU (aa (pv 0) ah)) au (aJ _)) (jj (fH (dz (aM (lY rfl) rfl M.SM Lm (aa (g8 (N':=["sign"]) (own:=1) (fr:=[]) rfl (iN (N:=["word"]) (sc:=ai eX) rfl rfl rfl (by decide+kernel)) (Mo (pv 0)) (fX (by decide)) (λ_ _ _=>(bx (i:=0) (show List.Nodup (["sign"]:List Str)by decide+kernel) rfl (Or.inl rfl))) (λ_ _ _=>lM) (λ_ _ _=>(cA xt (pv 0) (G0 M.g_FIGURES rfl) rfl))) ah))))))) (ak (aB xf)) aK) (ak (aB (nH (cA cx (eJ J0 rfl M.Ti K8 (aa (eJ m5 rfl M.F_ Ao (aa (pv 0) ah)) ah)) (pv 0) (aJ _)) (nU (cA HM (eJ m5 rfl M.F_ Ao (aa (pv 0) ah)) (my M.g_MOST_FIGURE rfl) (aJ _))))))),?_⟩;try dsimp only[iG,m]
 refine pG ?_;intro _ _;refine⟨_,rfl,z,rfl,hsz,_,_,rfl,rfl,_,rfl,a_ (λc=>dS ?_) (λc=>?_)⟩
 ·have c:(2:Int)<((z.length:Nat):Int):=of_decide_eq_true c;have e:Al z=false:=by unfold Al;rw[decide_eq_false (by omega),Bool.false_and]
  have :=q H (ay.refl H);rw[e]at this;exact this
 have c:¬(2:Int)<((z.length:Nat):Int):=of_decide_eq_false (Bool.eq_false_iff.mpr c);have e0:Al z=(z.cps.toList.all DC&&(match PySem.intText? z with|some n=>decide (Str.ofString (toString n)=z)&&decide (n<=39)|none=>false)):=by unfold Al;rw[decide_eq_true (by omega),Bool.true_and]
 rw[e0]at q;refine⟨_,rfl,z,rfl,λp j=>nq z.cps.size (λi=>V.bl (DC ((z.cps[i]?).getD 0))) j hsz (λi a hi s2=>⟨hi,?_⟩) λa s2 h2=>⟨bf _,p,z.cps.toList.map DC,rfl,bI.of (by rw[<-Jo];exact h2),?_⟩⟩;·rintro v d⟨rfl,c,hc,rfl⟩R g;refine⟨_,rfl,_,_,rfl,rfl,?_⟩;have :=g d (ay.refl _);rw[hc]at this;rw[T9];exact this
 ·have e:(z.cps.toList.map DC).all id=z.cps.toList.all DC:=by rw[List.all_map];rfl
  rw[e];refine⟨_,rfl,?_⟩;cases hd:z.cps.toList.all DC with
   |false=>have :=q a s2;rw[hd,Bool.false_and]at this;exact dS this
   |true=>
    obtain⟨n,hn,r,u⟩:=Ik h1 (by omega) hd;have :=q a s2;rw[hd,Bool.true_and,hn]at this;have this:Q (V.bl (decide (Str.ofString (toString n)=z)&&decide (n<=39))) a:=this;have l:n.natAbs.log2<1920:=by
     have :n.natAbs<2^10:=by omega
     have :=Nat.log2_lt (n:=n.natAbs) (k:=10);by_cases b:n.natAbs=0;·rw[b];decide
     ·have :=(Nat.log2_lt b).mpr ‹n.natAbs<2^10›;omega
    refine ff ⟨_,rfl,z,n,rfl,hn,(by omega),n,rfl,l,_,rfl,rfl,_,rfl,?_⟩;have e3:decide (V.str (Str.ofString (toString n))=V.str z)=decide (Str.ofString (toString n)=z):=by
     by_cases h:Str.ofString (toString n)=z;·rw[h];simp
     ·rw[decide_eq_false h];exact decide_eq_false λy=>h (by injection y)
    rw[e3];cases h3:decide (Str.ofString (toString n)=z)with|false=>rw[h3,Bool.false_and]at this;exact ff this|true=>rw[h3,Bool.true_and]at this;exact dS ⟨_,rfl,z,n,rfl,hn,(by omega),_,_,rfl,rfl,this⟩
theorem Lq{z:Str}(h1:1<=z.length)(h:Al z=true):∃n:Nat,n<=39/\PySem.intText? z=some ((n:Nat):Int)/\z=Str.ofString (toString ((n:Nat):Int))/\z.length<=2:=by unfold Al at h;rw[bD,bD]at h;obtain⟨n,hn,a,b⟩:=Ik h1 (of_decide_eq_true h.1) h.2.1;have h3:=h.2.2;rw[hn]at h3;have h3:(decide (Str.ofString (toString n)=z)&&decide (n<=39))=true:=h3;rw[bD]at h3;obtain⟨k,rfl⟩:∃k:Nat,n=(k:Nat):=⟨n.toNat,by omega⟩;exact⟨k,by have :=of_decide_eq_true h3.2;omega,hn,(of_decide_eq_true h3.1).symm,of_decide_eq_true h.1⟩
theorem E3:aC ["word","forms","names"] ["word","forms","names"] (ai jC):=⟨rfl,rfl,rfl,by decide+kernel,rfl,by decide+kernel,by decide+kernel⟩
end K62
end
section
namespace L3
open PySem PySem.Spec PyProof.Rows L2 KM
end L3
end
section
namespace L3
open PySem PySem.Spec PyProof.Rows L2
section
variable{prog:Program}{w:World}{A:Around}{E:Value->Shared->Prop}{s:Shared}
theorem xE{it l:Addr}{Q:Option Value->Shared->Prop}(hb:HB s.heap A)(c:s.heap.IsRevIter it l (-1))(d:∀h',Heap.ExtBut it s.heap h'->Q none {s with heap:=h'}):wpAny (model prog w) A (pyNext (.ref it)) Q E s:=by obtain⟨o,g,hc,hd⟩:=id c;unfold pyNext;refine ao (wpAny_attempt (wpAny_callSpecial?_slot (name:=Str.ofString "__next__") c.typeIs F.slot_lri_next (jO F.slot_lri_next c.typeIs F.entry_lri_next ?_ (F.args_lri_next_1 _))));unfold Builtin.«list_reverseiterator.__next__»;refine ao (wpAny_of_eq (a:=(Value.ref it,[])) rfl ?_);dsimp only;refine ao (dC g hd (x:=rawInt (-1)) rfl ?_);show wpAny _ _ (if(-1:Int)<0 then _ else _) _ _ s;rw[if_pos (by decide)];refine ao (wpAny_rule ?_);refine ao ?_;exact eA (A:=A.in1) hb λh1 e k f=>ao (jw f (aU (d h1 λb o _ h=>k b o h)))
end
noncomputable def Itv(K:PySem.W.Frag)(a:Addr)(n:Nat):It:=⟨λi H=>i<n/\∃xs,bI K H a xs/\xs.length=n,λi H x H'=>H'=H/\∀xs,bI K H a xs->xs[n-1-i]?=some x,λi H=>i=n⟩
theorem M_{P:Program}{w:World}{K:PySem.W.Frag}{tg:Expr}(a it:Addr)(n:Nat):Turn P w K tg (Itv K a n) [it] it (λi h=>h.IsRevIter it a ((n:Int)-1-(i:Int)))where
 mem:=by simp
 obj:=λi h st b hb=>by
  have e:b=it:=by simpa using hb
  subst e;obtain⟨o,e,c,d⟩:=st;exact⟨o,e,λv z=>by rw[d]at z;cases z⟩
 keep:=λi h h' st k=>st.at λo e=>k it (by simp) o e;item:=by
  intro X t hw r hc i pins s σ H E I f st g;subst t hw r;obtain⟨hi,xs,hq,hn⟩:=g;obtain⟨its,J,p,L⟩:=I.list hq;have A:xs[n-1-i]?=some (xs[n-1-i]'(by lia)):=dR (by lia);obtain⟨u,D,G⟩:=J.get A;obtain⟨j,f1,f2,l,m,q⟩:=f it (by simp);have e:(n:Int)-1-(i:Int)=((n-1-i:Nat):Int):=by lia
  have st:s.heap.IsRevIter it a ((n-1-i:Nat):Int):=by rw[<-e];exact st
  refine wpAny_pyNext_rev_item st p.isList (x:=u) (by simpa using D) λh' y sb=>?_;have B:Inv X pins σ H {s with heap:=h'}:=I.turned (t':=s.toks) (λb o hb e=>(sb.2 b hb).trans e) j f1 l m q;have e2:((n-1-i:Nat):Int)-1=(n:Int)-1-((i+1:Nat):Int):=by lia
  rw[e2]at y;obtain⟨o,e,c,d⟩:=id y;exact⟨u,rfl,Bo (s:={s with heap:=h'}) e c d (by decide) ⟨_,H,B,G,⟨rfl,λys F=>by rw[I.i8 F hq];exact A⟩,y,λb hb=>(f b hb).1⟩⟩
 done:=by
  intro X t hw r hc i pins s σ H E I f st g;subst t hw r;obtain⟨j,f1,f2,l,m,q⟩:=f it (by simp);have g:i=n:=g;have e:(n:Int)-1-(i:Int)=-1:=by lia
  have st:s.heap.IsRevIter it a (-1):=by rw[<-e];exact st
  exact xE (I.hb hc) st λh' C=>⟨rfl,I.turned (t':=s.toks) (λb o hb e=>C b o hb e) j f1 l m q⟩
 self:=λ_ _ _ _ _ st h=>wpAny_pyIter_revIter st h
noncomputable def abz(K:PySem.W.Frag)(c:TA):TI:=λσ H R=>c σ H λvs b=>∃a xs,vs=[.ref a]/\bI K b a xs/\R (Itv K a xs.length) b
theorem V3{X:Cx}{tg:Expr}{a:Expr}{g:TA}{p f:Pos}(l:Gl X "reversed")(hm:X.mg "reversed"=none)(ha:PA X [a] g)(m:starEach [a] X.env=[(false,eval a X.env)]:=by rfl):PI X tg (.Call (.Name "reversed" p) [a] [] f) (abz X.K g):=by
 intro pins s σ H R I h;refine Call_ (iR I l hm boot_reversed (PyProof.Rows.callWith_type1 (bH (ha f pins s σ H _ I h) λus s1⟨vs,j,c,u,t⟩=>?_) (by rw[m];rfl) (by rfl)));obtain⟨a1,xs,e,n,q⟩:=t;subst e;obtain⟨x,rfl,v⟩:=Vals.one u;cases v;obtain⟨d,w,r,_⟩:=c.list n;refine call_reversed_list r.isList ?_;have k:((d.toArray.size:Nat):Int)-1=((xs.length:Nat):Int)-1-((0:Nat):Int):=by rw[cE,<-w.length];lia
 have i:({s1 with heap:=s1.heap.push (revObj a1 (((d.toArray.size:Nat):Int)-1))}:Shared).heap.IsRevIter s1.heap.objs.size a1 (((xs.length:Nat):Int)-1-((0:Nat):Int)):=by rw[<-k];exact⟨_,eI _ rfl,rfl,rfl⟩
 refine wpAny_pyIter_revIter i ?_;refine⟨s1.heap.objs.size,[s1.heap.objs.size],_,_,j,rfl,c.kept (t':=s1.toks) λb o e=>bC _ e,M_ a1 _ xs.length,i,λb hb=>?_,q⟩;have e:b=s1.heap.objs.size:=by simpa using hb
 subst e;exact c.EV (bf _) (c.bK.fresh (bf _))
theorem kU(k:Str):∀{vs:List Value}{ns:List Str},StrsAre vs ns->∀(j:Nat)(h1:j<vs.length)(h2:j<ns.length),isStrOf k vs[j]=(ns[j]==k)|_,_, .cons n t _,0,_,_=>rfl|_,_, .cons n t r,j+1,h1,h2=>kU k r j (Nat.lt_of_succ_lt_succ h1) (Nat.lt_of_succ_lt_succ h2)
theorem tK{k:Str}:∀{ns:List Str}{j:Nat},j<ns.idxOf k->∀(h2:j<ns.length),(ns[j]==k)=false
 |n::r,0,h,_=>by
  by_cases e:n=k;·subst e;simp at h
  ·simpa using e
 |n::r,j+1,h,h2=>by
  by_cases e:n=k;·subst e;simp at h
  ·have hb:(n==k)=false:=by simpa using e
   have h':j<r.idxOf k:=by rw[List.idxOf_cons,hb]at h;exact Nat.lt_of_succ_lt_succ h
   exact tK h' (Nat.lt_of_succ_lt_succ h2)
noncomputable def QD(K:PySem.W.Frag):V->List V->Hp->VK->Prop:=λx vs H Q=>∃(l:Addr)(ys:List Str)(y:Str),x= .ref l/\vs=[.str y]/\bI K H l (ys.map V.str)/\y∈ys/\ys.length<=100000/\Q (.int (ys.idxOf y:Nat)) H
theorem Jr{X:Cx}:MtR X "list.index" (QD X.K):=by
 intro pins s σ H x vs v us Q I m k h;obtain⟨l,ys,y,rfl,rfl,hq,g,hn,q⟩:=h;cases m;obtain⟨u,rfl,i⟩:=k.one;obtain⟨tk,rfl⟩:=(show∃t,u=Value.str y t from i);obtain⟨its,r,pl,c⟩:=I.list hq;have hi:=C_ r;obtain⟨⟨cls,d,data,sl⟩,b,hc,n,hd⟩:=id pl.isList;simp only at hc hd;subst hc hd;have hlen:its.length=ys.length:=by rw[<-r.length,cy]
 have a:ys.idxOf y<ys.length:=List.idxOf_lt_length_iff.mpr g;refine call_meets PySem.F.slot_list_index ⟨_,b,rfl⟩ PySem.F.entry_list_index (PySem.F.args_list_index_2 _ _) (SeqAt.list_indexAt l its.toArray n d sl (.str y tk) (isStrOf y) (ys.idxOf y) (by simpa[hlen]using a) (by lia) ?_ ?_) ⟨b,λz c=>(eq_isStrOf y tk hi z (by simpa using c)).at _ _,⟨.int (ys.idxOf y:Nat),H,I.tok _,⟨_,rfl⟩,q⟩⟩;·show isStrOf y its[ys.idxOf y]=true;rw[kU y hi _ (by lia) a];simpa using List.getElem_idxOf a
 ·intro j e f;show isStrOf y its[j]=false;rw[kU y hi j (by simpa using e) (by lia)];exact tK f _
theorem Fc{X:Cx}{CX:kL}{x:Str}{k:Nat}{ps:List Str}{sp:Sp}{E:XK}{p i:Pos}(F:bO X.prog X.w X.K X.mg CX x k ps sp)(d:bY k X.A)(c:Gl X x)(g:Passes CX X E)(a:(x==("__debug__":Str))=false:=by decide)(hc:X.calm=true:=by rfl):PE X (.Call (.Name x p) [] [] i) (GD sp [] E Kd):=by obtain⟨f,fd,F,m,kp,b⟩:=F;intro pins s σ H Q I h;refine pM (fb I c m ?_ a);have q:sp [] H Q E:=h;exact PySem.W.callWith_K0 (first:=[]) I.gL kp (rM (us:=[]) (vs:=[]) F d b I hc (λe s' hc=>g pins σ H s e s' I hc) .nil q)
end L3
end
section
namespace K62
open PySem L2 L3 KM PyProof.Rows
seal L2.PE L2.PS L2.gR L2.PT L2.PW L2.PA L2.PG L2.zI L2.PI L2.PC L2.PO L2.E_ L2.PK L3.zD L3.SN L3.VG L3.tJ L3.PSg
variable{P:Program}{w:World}{K:PySem.W.Frag}{mg:Str->Option Value}{base:Heap}{t:wQ}
structure Fo where
 word:Str
 name:Option Str
 jz:List Str
 parts:List D
noncomputable def Xk:Option Str->V|none=> .aO|some z=> .str z
noncomputable def JP(f:Fo):Bool:=f.name.isSome&&decide (jZ f.word= .int (f.parts.length:Nat))
def Zo(K:PySem.W.Frag)(C:Addr):Sp:=λvs H Q _=>∃(x p:Addr)(w:Str)(n:Option Str)(ds ps:List V),vs=[.ref x]/\Fm K C H x (.str w) (Xk n) ds p ps/\(n.isSome=true->∃i:Int,KTD.datumAt w BO=some (.int i))/\Q (.bl (n.isSome&&decide (jZ w= .int (ps.length:Nat)))) H
theorem kJ:aC ["self"] ["self"] (ai bw):=⟨rfl,rfl,rfl,by decide+kernel,rfl,by decide+kernel,by decide+kernel⟩
theorem c_Form_binds_here(D:Dm K t.Form "binds_here" "Form.binds_here" bw ["self"])(M:Mg mg t)(aL:oJ K t.Form)(B:iy K t.eV BO):jK P w K mg b_ t.Form "binds_here" (1) ["self"] (Zo K t.Form):=by
 refine D.ok kJ (λvs H Q E h=>?_) (λbase f bS A outer s H vs Q E c h=>?_);·obtain⟨x,p,w,n,ds,ps,rfl,_⟩:=h;rfl
 obtain⟨x,p,w,n,ds,ps,rfl,F,hb,q⟩:=h;obtain⟨dx,d,a,hd⟩:=F.obj;refine⟨_,(ak (aB (nH (cA qV (eF (pv 0) rfl) fO (aJ _)) (nU (cA cx (NP (e_ M.g_BINDER_OVER rfl) (eF (pv 0) rfl) (λ_ _=>rfl)) (aM aF rfl M.cK bU (aa (eF (pv 0) rfl) ah)) (aJ _)))))),?_⟩;try dsimp only[iG,b]
 refine⟨_,rfl,x,t.Form,dx,_,_,rfl,a,aL.cls,aL.name,rfl,rfl,?_⟩;cases n with
  |none=>exact⟨_,rfl,ff q⟩
  |some z=>
   obtain⟨i,hi⟩:=hb rfl;refine⟨_,rfl,dS ?_⟩;refine⟨_,rfl,x,t.Form,dx,_,_,rfl,a,aL.cls,aL.word,rfl,_,_,w,_,rfl,rfl,B,hi,_,rfl,x,t.Form,dx,_,_,rfl,a,aL.cls,aL.parts,rfl,p,_,rfl, .inl (bI.of F.parts),rfl,?_⟩;have e:jZ w= .int i:=by unfold jZ;rw[hi];rfl
   rw[e]at q;exact q
def C6(K:PySem.W.Frag)(C N:Addr):Sp:=λvs H Q E=>∃(x p:Addr)(w n:V)(ds ps:List V),vs=[.ref x]/\Fm K C H x w n ds p ps/\ps.length<=100/\(ps.length≠ds.length->E (.ref N) none H)/\(ps.length=ds.length->∀(q:Addr)(H':Hp),H' q=some (.tup (w::ps))->ay H H'->Q (.ref q) H')
theorem ua:aC ["self"] ["self"] (ai bW):=⟨rfl,rfl,rfl,by decide+kernel,rfl,by decide+kernel,by decide+kernel⟩
theorem c_Form_closed(D:Dm K t.Form "closed" "Form.closed" bW ["self"])(M:Mg mg t)(aL:oJ K t.Form)(i:jM K t.bp)(j:jK P w K mg b_ t.Form "is_full" (1) ["self"] (yP K t.Form)):jK P w K mg (c7 P w) t.Form "closed" (2) ["self"] (C6 K t.Form t.bp):=by
 refine D.xV ua (λvs H Q E h=>?_) (λbase f bS A outer s H vs Q E o h=>?_);·obtain⟨x,p,w,n,ds,ps,rfl,_⟩:=h;rfl
 obtain⟨x,p,w,n,ds,ps,rfl,F,hl,e1,q⟩:=h;obtain⟨dx,d,b,hd⟩:=id F.obj;refine⟨_,(aj (bj (fH (dz (vy j aL.cls o.m bh (pv 0)))) (ak (cB (G:=(λH'=>E (.ref t.bp) none H')) i M.g_NoText (aa aN ah) (λpins σ H s e h' I m q=>da I m q))) aK) (ak (aB (cR s_ (bJ (aa (eF (pv 0) rfl) ah)) (eJ kf rfl M.lT i4 (aa (eF (pv 0) rfl) ah)))))),?_⟩;try dsimp only[iG,v]
 refine pG ?_;intro _ _;have y:(decide (ps.length=ds.length))=true↔ps.length=ds.length:=decide_eq_true_iff;refine⟨_,rfl,x,dx,_,rfl,b,rfl,x,p,w,n,ds,ps,rfl,F,_,rfl,?_⟩;by_cases c:ps.length=ds.length;·rw[decide_eq_true c];refine ff ⟨_,rfl,x,t.Form,dx,_,_,rfl,b,aL.cls,aL.word,rfl,(gZ rfl),λa k=>?_⟩;have t1:=av k (.tup [w]);have g:(upd H a (.tup [w])) a=some (.tup [w]):=aq;generalize upd H a (.tup [w])=u at t1 g⊢;refine⟨_,rfl,x,t.Form,dx,_,_,rfl,t1 _ _ b,aL.cls,aL.parts,rfl,p,_,rfl, .inl ⟨bI.of (t1 _ _ F.parts),λl hl=>?_⟩⟩;have t2:=av hl (.tup ps);exact⟨a,l,[w],ps,rfl,rfl,t2 _ _ g,aq,(by rw[sizeLine_eq,List.length_singleton];omega),λr H' s h'=>q c r H' h' (t1.trans (t2.trans s))⟩
 ·rw[decide_eq_false c];exact dS ⟨by decide,e1 c⟩
noncomputable def vS:V->Str| .str x=>x|_=>""
noncomputable def kB(x:Str):List Str:=((bG.lookup x).getD []).map vS
theorem PJ:(bG.all λr=>r.2.all λv=>decide (V.str (vS v)=v))=true:=by decide+kernel
theorem O6(x:Str):(kB x).map V.str=(bG.lookup x).getD []:=by
 have c:∀rs:List (Str×List V),(rs.all λr=>r.2.all λv=>decide (V.str (vS v)=v))=true->(((rs.lookup x).getD []).map vS).map V.str=(rs.lookup x).getD []:=λrs=>by
  induction rs with
   |nil=>intro _;rfl
   |cons r rs b=>
    intro h;rw[List.all_cons,bD]at h;rw[jS];split
    ·show(r.2.map vS).map V.str=r.2;rw[List.map_map];conv=>rhs;rw[<-List.map_id r.2]
     exact List.map_congr_left λv a=>of_decide_eq_true (List.all_eq_true.mp h.1 v a)
    ·exact b h.2
 exact c bG PJ
theorem Dk(x:Str):(kB x).length<=4:=by
 have :(bG.all λr=>decide (r.2.length<=4))=true:=by decide+kernel
 unfold kB;rw[cy];cases e:bG.lookup x with
  |none=>exact dA _
  |some ds=>
   have h:∀rs:List (Str×List V),rs.lookup x=some ds->∃r∈rs,r.2=ds:=λrs=>by
    induction rs with
     |nil=>intro h;cases h
     |cons r rs a=>
      intro h;rw[jS]at h;split at h;·exact⟨r,cj,Option.some.inj h⟩
      ·obtain⟨q,h1,h2⟩:=a h;exact⟨q,cF _ h1,h2⟩
   obtain⟨r,h1,rfl⟩:=h bG e;exact of_decide_eq_true (List.all_eq_true.mp this r h1)
noncomputable def m9(a:List Str):Str:=a.headD ""
noncomputable def gM(a:List Str):Option Fo:=if kB (m9 a)=[]then none else if DG (m9 a) BO=false then some ⟨m9 a,none,kB (m9 a),[]⟩else match a with|[_,n]=>if j7 (.str n)=true then some ⟨m9 a,some n,kB (m9 a),[]⟩else none|_=>none
theorem HJ{C:Addr}{H:Hp}{w n d:V}{Q:VK}{E:XK}(k:∀(x dx p:Addr)(H':Hp),ay H H'->H x=none->H p=none->x≠p->H' x=some (.ins C dx (fmF w n d p))->H' p=some (.lst [])->Q (.ref x) H'):∀(x dx:Addr){o:HO},H x=none->H dx=none->x≠dx->AU C [.ref x,w,n,d] (upd (upd H dx o) x (.ins C dx [])) (λr H'=>r= .aO/\Q (.ref x) H') E:=λx dx o f c s=>⟨x,dx,w,n,d,rfl,aq,λp j a i l m keep=>⟨rfl,k x dx p j (λb ob h=>by have g:b≠x:=aD h f;have q:b≠dx:=aD h c;exact keep b ob g (by rw[aI g,aI q];exact h)) f (by
 rw[aI i]at a;by_cases e:p=dx;·rw[e];exact c
 ·rw[aI e]at a;exact a) i.symm m l⟩⟩
theorem Ua{a:Addr}{as:List Addr}(T:KD K a bG as)(x:Str){H:Hp}{c:Addr}(h:H c=some (.tup [])):∃d:Addr,(KTD.datumAt x ((bG.zip as).map λp=>(p.1.1,V.ref p.2))).getD (.ref c)= .ref d/\bQ K H d ((bG.lookup x).getD []):=by
 cases e:bG.lookup x with
  |some ds=>obtain⟨b,h1,h2⟩:=T.some e;exact⟨b,by rw[h1];rfl,h2 H⟩
  |none=>
   rcases jB (x:=x) (λp=>V.ref p.2) bG as T.len with⟨r,b,h1,h2,h3,h4⟩|⟨_,h2⟩;·rw[e]at h3;cases h3
   ·exact⟨c,by rw[h2];rfl,bQ.of h⟩
theorem pick{c:Bool}{T1 T2:VK->Prop}{G:VK}{v:V}{H:Hp}(h1:c=true->∀R:VK,R v H->T1 R)(h2:c=false->∀R:VK,R v H->T2 R)(h:G v H):if c=true then T1 G else T2 G:=by cases c with|true=>exact dS (h1 rfl G h)|false=>exact ff (h2 rfl G h)
def By(K:PySem.W.Frag)(C N:Addr):Sp:=λvs H Q E=>∃(a:Addr)(b:List Str),vs=[.ref a]/\H a=some (.lst (b.map V.str))/\b.length<=2/\(∀z∈b,z.length<=1000)/\(gM b=none->∀H',ay H H'->E (.ref N) none H')/\∀fo:Fo,gM b=some fo->∀(x p:Addr)(H':Hp),ay H H'->H x=none->H p=none->x≠p->Fm K C H' x (.str fo.word) (Xk fo.name) (fo.jz.map V.str) p []->Q (.ref x) H'
theorem kI:aC ["head","word","due"] ["head"] (ai jx):=⟨rfl,rfl,rfl,by decide+kernel,rfl,by decide+kernel,by decide+kernel⟩
theorem JU(D:Df K mg "form_of" jx ["head"])(M:Mg mg t)(Z:jM K t.bp){as:List Addr}(T:KD K t.iY bG as)(B:iy K t.eV BO)(nK:bO P w K mg b_ "is_name" (1) ["value"] va)(gd:Ph P w K mg "Form" t.Form 1 ["self","word","name","due"] (AU t.Form)):bO P w K mg (c7 P w) "form_of" (3) ["head"] (By K t.Form t.bp):=by
 refine D.xV kI (λvs H Q E h=>?_) (λbase f bS A outer s H vs Q E N h=>?_);·obtain⟨a,b,rfl,_⟩:=h;rfl
 obtain⟨a,b,rfl,ha,hl,S,k,q⟩:=h;refine⟨_,(aj (aR (i:=1) kI.nd rfl (dq rfl) (f7 (aG oX (aM aF rfl M.cK bU (aa (pv 0) ah)) au (aJ _)) (aZ eO (pv 0) au (λ_ _=>rfl)) aN)) (aj (aR (i:=2) kI.nd rfl (dq rfl) (BM (e_ M.g_KIDS_DUE rfl) (pv 1) (bJ ah) ⟨rfl,rfl,rfl,rfl⟩)) (aj (bj (aG cx (aM aF rfl M.cK bU (aa (pv 2) ah)) au (aJ _)) (ak (cB (G:=(λH'=>E (.ref t.bp) none H')) Z M.g_NoText (aa aN ah) (λpins σ H s e h' I m q=>da I m q))) aK) (aj (bj (aG ly (pv 1) (e_ M.g_BINDER_OVER rfl) rfl) (ak (aB (D8 gd N.m rfl bh (aa (pv 1) (aa fO (aa (pv 2) ah)))))) aK) (aj (bj (L2.PW.pt (oO (aG Hs (aM aF rfl M.cK bU (aa (pv 0) ah)) au (aJ _)) (jj (fH (dz (aV nK N.m rfl bh (aa (aZ eO (pv 0) au (λ_ _=>rfl)) ah))))))) (ak (cB (G:=(λH'=>E (.ref t.bp) none H')) Z M.g_NoText (aa aN ah) (λpins σ H s e h' I m q=>da I m q))) aK) (ak (aB (D8 gd N.m rfl bh (aa (pv 1) (aa (aZ eO (pv 0) au (λ_ _=>rfl)) (aa (pv 2) ah))))))))))),?_⟩;try dsimp only[iG,cQ]
 refine aaB ?_;intro _ _ _ _ _ _;refine⟨_,rfl,a,_,rfl, .inl (bI.of ha),_,_,rfl,rfl,_,rfl,?_⟩;refine pick (T1:=λG=>Xm (Z1 K) (Uc 0) (tC (.int 0)) _ H G) (T2:=λG=>tC (.str "") _ H G) (v:= .str (m9 b)) (H:=H) (λc R h=>?_) (λc R h=>?_) ?_;·cases b with|nil=>cases c|cons z r=>exact⟨_,rfl,a,_,_,_,rfl,rfl,bI.of ha,aH (j:=0) rfl,h⟩
 ·cases b with|nil=>exact h|cons z r=>exact absurd c (by simp)
 refine⟨_,_,rfl,T.tab,_,rfl,(gZ rfl),λY A3=>⟨_,rfl,?_⟩⟩;have t1:=av A3 (.tup []);obtain⟨d,hd,hq⟩:=Ua T (m9 b) (show(upd H Y (.tup [])) Y=some (.tup [])from aq);rw[hd,<-O6]at*;generalize upd H Y (.tup [])=y at t1 hq⊢;clear A3;have C:=t1 _ _ ha;refine⟨_,rfl,d,_,rfl, .inr hq,rfl,_,rfl,?_⟩;have el:decide (V.int (((kB (m9 b)).map V.str).length:Nat)=V.int 0)=decide (kB (m9 b)=[]):=by generalize kB (m9 b)=l;cases l with|nil=>rfl|cons a l=>exact(decide_eq_false λz=>by have z:=V.int.inj z;simp only[cy,dY]at z;omega).trans (decide_eq_false (by simp)).symm
 rw[el];have fin:∀(fo:Fo)(U:V),gM b=some fo->fo.word=m9 b->fo.jz=kB (m9 b)->Xk fo.name=U->∀(x dx p:Addr)(H':Hp),ay y H'->y x=none->y p=none->x≠p->H' x=some (.ins t.Form dx (fmF (.str (m9 b)) U (.ref d) p))->H' p=some (.lst [])->Q (.ref x) H':=by
  intro fo U e1 e2 e3 e4 x dx p H' s u J X O L;refine q fo e1 x p H' (t1.trans s) (t1.free u) (t1.free J) X ⟨⟨dx,d,by rw[e2,e4];exact O,?_⟩,L⟩;rw[e3];rcases hq with h|h;·exact .inl (h.imp (λh=>s _ _ h) λ⟨o,h⟩=>⟨o,s _ _ h⟩)
  ·exact .inr h
 by_cases g:kB (m9 b)=[];·rw[decide_eq_true g];exact dS ⟨by decide,k (by unfold gM;rw[if_pos g]) y t1⟩
 rw[decide_eq_false g];refine ff ⟨_,rfl,_,_,_,rfl,rfl,B,_,rfl,?_⟩;cases hb:DG (m9 b) BO with
  |false=>refine dS ⟨_,rfl,_,rfl,λx dx u F W=>HJ (fin ⟨m9 b,none,kB (m9 b),[]⟩ .aO (by unfold gM;rw[if_neg g,if_pos hb]) rfl rfl rfl) x dx u F W.symm⟩
  |true=>
   refine ff ?_;refine⟨_,rfl,a,_,rfl, .inl (bI.of C),_,_,rfl,rfl,_,rfl,?_⟩;match b,hl,S,C,k,fin,g,hb with
    |[],_,_,_,k,_,g,hb=>exact dS (dS ⟨by decide,k (by unfold gM;rw[if_neg g,if_neg (by rw[hb];decide)]) y t1⟩)
    |[z],_,_,_,k,_,g,hb=>exact dS (dS ⟨by decide,k (by unfold gM;rw[if_neg g,if_neg (by rw[hb];decide)]) y t1⟩)
    |[z,n],_,S,C,k,fin,g,hb=>refine ff ⟨_,rfl,a,_,_,_,rfl,rfl,bI.of C,aH (j:=1) rfl, .str n, .str n,rfl,⟨rfl,S n (by simp)⟩,λH2 s2=>⟨_,rfl,?_⟩⟩;cases hn:j7 (.str n)with|false=>exact dS ⟨by decide,k (by unfold gM;rw[if_neg g,if_neg (by rw[hb];decide)];show(if j7 (.str n)=true then _ else _)=none;rw[hn];rfl) H2 (t1.trans s2)⟩|true=>refine ff ⟨_,rfl,_,rfl,a,_,_,_,rfl,rfl,bI.of (s2 _ _ C),aH (j:=1) rfl,_,rfl,λx dx u F W=>HJ (λx dx p H' s u J X O L=>fin ⟨m9 [z,n],some n,kB (m9 [z,n]),[]⟩ (.str n) (by unfold gM;rw[if_neg g,if_neg (by rw[hb];decide)];show(if j7 (.str n)=true then _ else _)=_;rw[hn];rfl) rfl rfl rfl x dx p H' (s2.trans s) (s2.free u) (s2.free J) X O L) x dx u F W.symm⟩
    |_::_::_::_,hl,_,_,_,_,_,_=>simp at hl
noncomputable def F1(z:Str)(names:List Str):List Fo->Nat->D|[],b=>if z∈names then .tup [.str "var", .int ((b+names.idxOf z:Nat):Int)]else .tup [.str "name", .str z]|f::r,b=>if JP f=true then(if f.name=some z then .tup [.str "var", .int (b:Nat)]else F1 z names r (b+1))else F1 z names r b
def PZ(K:PySem.W.Frag)(C:Addr)(H:Hp)(x p:Addr)(f:Fo):Prop:=(∃ps,Fm K C H x (.str f.word) (Xk f.name) (f.jz.map V.str) p ps/\bg H f.parts ps)/\(f.name.isSome=true->∃i:Int,KTD.datumAt f.word BO=some (.int i))
def FY(K:PySem.W.Frag)(C:Addr):Sp:=λvs H Q E=>∃(a b:Addr)(z:Str)(st:List (Addr×Addr×Fo))(names:List Str),vs=[.str z, .ref a, .ref b]/\H a=some (.lst ((st.map λq=>V.ref q.1).reverse))/\st.length<=100000/\(∀q∈st,PZ K C H q.1 q.2.1 q.2.2)/\bI K H b (names.map V.str)/\names.length<=1000/\z.length<=1000/\∀(v:V)(H':Hp),ay H H'->Rep H' (F1 z names (st.map (·.2.2)) 0) v->Q v H'
theorem dU:aC ["word","forms","names","binders","form"] ["word","forms","names"] (ai eN):=⟨rfl,rfl,rfl,by decide+kernel,rfl,by decide+kernel,by decide+kernel⟩
theorem wa(D:Df K mg "thing_named" eN ["word","forms","names"])(M:Mg mg t)(aL:oJ K t.Form)(C:jK P w K mg b_ t.Form "binds_here" (1) ["self"] (Zo K t.Form)):bO P w K mg b_ "thing_named" (2) ["word","forms","names"] (FY K t.Form):=by
 refine D.ok dU (λvs H Q E h=>?_) (λbase f bS A outer s H vs Q E T h=>?_);·obtain⟨a,b,z,st,names,rfl,_⟩:=h;rfl
 obtain⟨a,b,z,st,names,rfl,ha,J5,L,hb,hnl,W,q⟩:=h;refine⟨_,(aj (aR (i:=3) dU.nd rfl (dq rfl) au) (aj (gD PassesOwn.never rfl (V3 rfl M.EX (aa (pv 1) ah)) (bx (i:=4) dU.nd rfl (dq rfl)) (ak (bj (dz (vy C aL.cls T.m bh (pv 4))) (aj (bj (aG cx (eF (pv 4) rfl) (pv 0) (aJ _)) (ak (aB (bJ (aa aN (aa (pv 3) ah))))) aK) (ak (zZ (i:=3) dU.nd rfl (dq rfl) au yl))) aK))) (aj (bj (aG m8 (pv 0) (pv 2) rfl) (ak (aB (bJ (aa aN (aa (cR gA (pv 3) (xh PySem.F.plainAttrs_list PySem.F.slot_list_index PySem.F.type_list_index Jr (pv 2) (aa (pv 0) ah))) ah))))) aK) (ak (aB (bJ (aa aN (aa (pv 0) ah)))))))),?_⟩;try dsimp only[iG,cQ]
 refine JK ?_;intro _ _ _ _;refine⟨_,rfl,a,_,rfl,bI.of ha,?_⟩;have hlen:((st.map λq=>V.ref q.1).reverse).length=st.length:=by simp
 rw[hlen];let I:Nat->L2.St->Hp->Prop:=(λi u H'=>∃(j:Nat)(p:Option V),u=[some (.str z),some (.ref a),some (.ref b),some (.int (j:Nat)),p]/\H'=H/\j<=i/\F1 z names (st.map (·.2.2)) 0=F1 z names ((st.drop i).map (·.2.2)) j);refine iU st.length I ?_ ?_ ?_;·exact⟨0,none,rfl,rfl,bf _,by rw[List.drop_zero]⟩
 ·rintro i u G hi⟨j,p,rfl,rfl,N,g⟩;refine⟨⟨hi,_,bI.of ha,hlen⟩,?_⟩;rintro x' Z⟨rfl,o⟩;have o:=o _ (bI.of ha);have R:((st.map λq=>V.ref q.1).reverse)[st.length-1-i]?=some (V.ref (st[i]).1):=by rw[List.getElem?_reverse (by rw[cy];omega),cy,show st.length-1-(st.length-1-i)=i by omega,ny,dR hi];rfl
  rw[R]at o;cases o;have hq:=L st[i] (List.getElem_mem hi);have O:(st.drop i).map (·.2.2)=(st[i]).2.2::((st.drop (i+1)).map (·.2.2)):=by rw[El hi,dQ]
  rw[O]at g;generalize st[i]=Y at hq g⊢;obtain⟨r,X,fo⟩:=Y;obtain⟨⟨ps,F,B⟩,v⟩:=hq;dsimp only at F B v g⊢;obtain⟨dx,d,x,hd⟩:=id F.obj;have S:ps.length=fo.parts.length:=B.length;refine⟨_,rfl,r,dx,_,rfl,x,rfl,r,X,fo.word,fo.name,_,ps,rfl,F,v,_,rfl,?_⟩;have J:(fo.name.isSome&&decide (jZ fo.word=V.int ((ps.length:Nat):Int)))=JP fo:=by unfold JP;rw[S]
  rw[J];have k:F1 z names (st.map (·.2.2)) 0=if JP fo=true then(if fo.name=some z then .tup [.str "var", .int (j:Nat)]else F1 z names ((st.drop (i+1)).map (·.2.2)) (j+1))else F1 z names ((st.drop (i+1)).map (·.2.2)) j:=g;cases l:JP fo with
   |false=>rw[l]at k;exact ff ⟨j,_,rfl,rfl,by omega,by rw[k,if_neg (by decide)]⟩
   |true=>
    rw[l,if_pos rfl]at k;obtain⟨y,U⟩:∃y,fo.name=some y:=by unfold JP at l;cases e:fo.name with|none=>rw[e]at l;cases l|some y=>exact⟨y,rfl⟩
    refine dS ⟨_,rfl,r,t.Form,dx,_,_,rfl,x,aL.cls,aL.name,rfl,_,rfl,?_⟩;rw[U]at k⊢;refine⟨rfl,_,rfl,?_⟩;by_cases e:y=z;·subst e;rw[if_pos rfl]at k;refine a_ (λ_=>?_) (λc=>absurd (decide_eq_true rfl) c);refine⟨_,rfl,(gZ rfl),λn m=>?_⟩;rw[k]at q;exact q _ _ (av m _) ⟨n,_,rfl,aq,_,_,rfl,⟨rfl,by decide+kernel⟩,_,_,rfl,rfl,rfl⟩
    ·rw[if_neg (λh=>e (Option.some.inj h))]at k;refine a_ (λc=>absurd (by have :=of_decide_eq_true c;injection this) e) (λ_=>?_);refine⟨_,rfl,_,_,rfl,rfl,?_⟩;exact⟨j+1,_,rfl,rfl,by omega,k⟩
 ·rintro u G⟨j,p,rfl,rfl,N,g⟩;rw[List.drop_length]at g;have g:F1 z names (st.map (·.2.2)) 0=if z∈names then .tup [.str "var", .int ((j+names.idxOf z:Nat):Int)]else .tup [.str "name", .str z]:=g;refine⟨rfl,_,rfl,_,rfl,b,_,rfl, .inl hb,rfl,wI _,_,rfl,?_⟩;rw[uP];by_cases hm:z∈names;·rw[if_pos hm]at g;rw[decide_eq_true hm];refine dS ⟨_,rfl,_,rfl, .inl ⟨rfl,_,hb⟩,_,rfl,b,names,z,rfl,rfl,hb,hm,(by omega),_,_,rfl,rfl,(gZ rfl),λn m=>?_⟩;rw[g]at q;exact q _ _ (av m _) ⟨n,_,rfl,aq,_,_,rfl,⟨rfl,by decide+kernel⟩,_,_,rfl,rfl,rfl⟩
  ·rw[if_neg hm]at g;rw[decide_eq_false hm];refine ff ⟨_,rfl,(gZ rfl),λn m=>?_⟩;rw[g]at q;exact q _ _ (av m _) ⟨n,_,rfl,aq,_,_,rfl,⟨rfl,by decide+kernel⟩,_,_,rfl,⟨rfl,W⟩,rfl⟩
noncomputable def Wz(z:Str):Nat:=match PySem.intText? z with|some n=>n.toNat|none=>0
noncomputable def fZ(z:Str)(names:List Str)(st:List Fo):Option D:=if z∈(["nat","none","zero"]:List Str)then some (.tup [.str z])else if Al z=true then some (IS (Wz z))else if j7 (.str z)=true then some (F1 z names st 0)else none
def GG(K:PySem.W.Frag)(C N:Addr):Sp:=λvs H Q E=>∃(a b:Addr)(z:Str)(st:List (Addr×Addr×Fo))(names:List Str),vs=[.str z, .ref a, .ref b]/\H a=some (.lst ((st.map λq=>V.ref q.1).reverse))/\st.length<=100000/\(∀q∈st,PZ K C H q.1 q.2.1 q.2.2)/\H b=some (.lst (names.map V.str))/\names.length<=1000/\1<=z.length/\z.length<=1000/\(fZ z names (st.map (·.2.2))=none->∀H',ay H H'->E (.ref N) none H')/\∀(d:D),fZ z names (st.map (·.2.2))=some d->∀(v:V)(H':Hp),ay H H'->Rep H' d v->Q v H'
theorem PZ.mono{C x p:Addr}{H H':Hp}{f:Fo}(h:PZ K C H x p f)(s:ay H H'):PZ K C H' x p f:=by obtain⟨⟨ps,F,r⟩,hb⟩:=h;exact⟨⟨ps,F.mono s,r.mono s⟩,hb⟩
theorem Kp(D:Df K mg "leaf_of" jC ["word","forms","names"])(M:Mg mg t)(r:jM K t.bp)(C:bO P w K mg b_ "is_figure" (1) ["word"] Te)(u:bO P w K mg b_ "count_of" (1) ["number"] Gg)(y:bO P w K mg b_ "is_name" (1) ["value"] va)(B:bO P w K mg b_ "thing_named" (2) ["word","forms","names"] (FY K t.Form)):bO P w K mg (c7 P w) "leaf_of" (3) ["word","forms","names"] (GG K t.Form t.bp):=by
 have x:=C;refine D.xV E3 (λvs H Q E h=>?_) (λbase f bS A outer s H vs Q E i h=>?_);·obtain⟨a,b,z,st,names,rfl,_⟩:=h;rfl
 obtain⟨a,b,z,st,names,rfl,ha,S,L,hb,N,h1,h2,W,q⟩:=h;refine⟨_,(aj (bj (aG m8 (pv 0) (bJ (aa aN (aa aN (aa aN ah)))) rfl) (ak (aB (bJ (aa (pv 0) ah)))) aK) (aj (bj (dz (aV x i.m rfl bh (aa (pv 0) ah))) (ak (aB (aV u i.m rfl bh (aa (eJ m5 rfl M.F_ Ao (aa (pv 0) ah)) ah)))) aK) (aj (bj (dz (aV y i.m rfl bh (aa (pv 0) ah))) (ak (aB (aV B i.m rfl bh (aa (pv 0) (aa (pv 1) (aa (pv 2) ah)))))) aK) (ak (cB (G:=(λH'=>E (.ref t.bp) none H')) r M.g_NoText (aa aN ah) (λpins σ H s e h' I m q=>da I m q)))))),?_⟩;try dsimp only[iG,cQ]
 refine JK ?_;intro _ _ _ _;refine⟨_,rfl,(gZ rfl),λo O=>⟨o,(["nat","none","zero"]:List Str).map V.str,rfl, .inr (bQ.of aq),rfl,rfl,_,rfl,?_⟩⟩;have s1:=av O (.tup [V.str "nat", .str "none", .str "zero"]);show if(Xu (.str z) ((["nat","none","zero"]:List Str).map V.str))=true then _ else _;rw[uP];generalize upd H o (.tup [V.str "nat", .str "none", .str "zero"])=H1 at s1⊢;by_cases c:z∈(["nat","none","zero"]:List Str);·rw[decide_eq_true c];refine dS ⟨_,rfl,(gZ rfl),λT R=>?_⟩;exact q (.tup [.str z]) (by unfold fZ;rw[if_pos c]) _ _ (s1.trans (av R _)) ⟨T,_,rfl,aq,_,_,rfl,⟨rfl,h2⟩,rfl⟩
 rw[decide_eq_false c];refine ff ⟨_,rfl,z,rfl,h1,(by omega),λH2 s2=>⟨_,rfl,?_⟩⟩;have p:=s1.trans s2;cases g:Al z with
  |true=>
   obtain⟨n,acU,l,hzn,hl2⟩:=Lq h1 g;have e:fZ z names (st.map (·.2.2))=some (IS n):=by unfold fZ Wz;rw[if_neg c,if_pos g,l];rfl
   exact dS ⟨_,rfl,z,_,rfl,l,(by omega),n,rfl,(by omega),λv j k X=>q _ e v j (p.trans k) X⟩
  |false=>
   refine ff ⟨_,rfl, .str z, .str z,rfl,⟨rfl,h2⟩,λj k=>⟨_,rfl,?_⟩⟩;have d:=p.trans k;cases hn:j7 (.str z)with
    |false=>exact ff ⟨by decide,W (by unfold fZ;rw[if_neg c,if_neg (by rw[g];decide),if_neg (by rw[hn];decide)]) j d⟩
    |true=>
     have e:fZ z names (st.map (·.2.2))=some (F1 z names (st.map (·.2.2)) 0):=by unfold fZ;rw[if_neg c,if_neg (by rw[g];decide),if_pos hn]
     refine dS ⟨_,rfl,_,rfl,_,rfl,a,b,z,st,names,rfl,d _ _ ha,S,λU J=>(L U J).mono d,?_,N,h2,λv F Z Y=>q _ e v F (d.trans Z) Y⟩;exact bI.of (d _ _ hb)
noncomputable def aab:D->Bool| .tup (.str y::_)=>dZ y|_=>false
noncomputable def fI(f:Fo)(d:D):Option Fo:=match f.jz[f.parts.length]? with|none=>none|some a=>if aab d=decide (a="kind")then some {f with parts:=f.parts++[d]}else none
noncomputable def clD(f:Fo):D:= .tup (.str f.word::f.parts)
noncomputable def vA(names:List Str):Nat->List Str->List Fo->Option (List Fo)|_,[],st=>some st|0,_::_,_=>none|n+1,z::ws,st=>if z="("then match gM (ws.take 2)with|none=>none|some fo=>vA names n (ws.drop (if fo.name=none then 1 else 2)) (fo::st)else if z=")"then match st with|fo::go::r=>if fo.parts.length=fo.jz.length then(match fI go (clD fo)with|some g'=>vA names n ws (g'::r)|none=>none)else none|_=>none else match st with|fo::r=>(match fZ z names (fo::r)with|some d=>(match fI fo d with|some a=>vA names n ws (a::r)|none=>none)|none=>none)|[]=>none
theorem rC(names:List Str):∀(n m:Nat)(ws:List Str)(st:List Fo),ws.length<=n->ws.length<=m->vA names n ws st=vA names m ws st
 |n,m,[],st,_,_=>by cases n<;>cases m<;>rfl
 |0,_,_::_,_,h,_=>by simp at h
 |_,0,_::_,_,_,h=>by simp at h
 |n+1,m+1,z::ws,st,h1,h2=>by
  have h1:ws.length<=n:=by simpa using h1
  have h2:ws.length<=m:=by simpa using h2
  simp only[vA];split;·cases gM (ws.take 2)with|none=>rfl|some fo=>exact rC names n m _ _ (by rw[vb];omega) (by rw[vb];omega)
  split
  ·match st with
    |[]=>rfl
    |[_]=>rfl
    |fo::go::r=>
     simp only;split;·cases fI go (clD fo)with|none=>rfl|some g'=>exact rC names n m _ _ h1 h2
     ·rfl
  ·match st with|[]=>rfl|fo::r=>simp only;cases fZ z names (fo::r)with|none=>rfl|some d=>simp only;cases fI fo d with|none=>rfl|some a=>exact rC names n m _ _ h1 h2
noncomputable def WN(a:Str):Fo:=⟨"",none,[a],[]⟩
noncomputable def outD:Option (List Fo)->Option D|some [fo]=>fo.parts.head?|_=>none
noncomputable def eU(names:List Str)(a:Str)(ws:List Str):Option D:=outD (vA names ws.length ws [WN a])
theorem Ce{f b:Fo}{d:D}(h:fI f d=some b):f.parts.length<f.jz.length/\b={f with parts:=f.parts++[d]}/\∃a,f.jz[f.parts.length]?=some a/\aab d=decide (a="kind"):=by
 unfold fI at h;cases e:f.jz[f.parts.length]? with
  |none=>rw[e]at h;cases h
  |some a=>
   rw[e]at h;simp only at h;split at h;·rename_i c;exact⟨(List.getElem?_eq_some_iff.mp e).1,(Option.some.inj h).symm,a,rfl,c⟩
   ·cases h
theorem V6{x:Str}(h:DG x BO=true):∃i:Int,KTD.datumAt x BO=some (.int i):=by
 unfold DG at h;cases e:KTD.datumAt x BO with
  |none=>rw[e]at h;cases h
  |some v=>
   have :v= .int 1\/v= .int 0:=by
    simp only[KTD.datumAt,BO]at e;repeat' split at e
    all_goals first|(cases e;exact .inl rfl)|(cases e;exact .inr rfl)|cases e
   rcases this with z|z<;>rw[z]<;>exact⟨_,rfl⟩
theorem EY{b:List Str}{fo:Fo}(h:gM b=some fo):fo.parts=[]/\fo.jz.length<=4/\(fo.name.isSome=true->∃i:Int,KTD.datumAt fo.word BO=some (.int i))/\(if fo.name=none then 1 else 2)<=b.length/\fo.word=m9 b:=by
 unfold gM at h;by_cases c:kB (m9 b)=[];·rw[if_pos c]at h;cases h
 rw[if_neg c]at h;by_cases c1:DG (m9 b) BO=false;·rw[if_pos c1]at h;cases h;refine⟨rfl,Dk _,λz=>(nomatch z),?_,rfl⟩;rw[if_pos rfl];cases b with|nil=>exact absurd (by decide+kernel) c|cons a l=>simp
 ·rw[if_neg c1]at h;match b,h with
   |[y,n],h=>
    have h:(if j7 (.str n)=true then some (⟨m9 [y,n],some n,kB (m9 [y,n]),[]⟩:Fo)else none)=some fo:=h;split at h;·cases h;exact⟨rfl,Dk _,λ_=>V6 (by cases e:DG (m9 [y,n]) BO with|false=>exact absurd e c1|true=>rfl),by rw[if_neg (by simp)];simp,rfl⟩
    ·cases h
theorem Ka{z:Str}{names:List Str}{st:List Fo}{d:D}(h:fZ z names st=some d):∃(y:Str)(ds:List D),d= .tup (.str y::ds):=by
 have c:∀(st:List Fo)(b:Nat),∃(y:Str)(ds:List D),F1 z names st b= .tup (.str y::ds):=λst=>by
  induction st with
   |nil=>intro b;simp only[F1];split<;>exact⟨_,_,rfl⟩
   |cons f r a=>
    intro b;simp only[F1];split
    ·split;·exact⟨_,_,rfl⟩
     ·exact a _
    ·exact a _
 unfold fZ at h;split at h;·cases h;exact⟨_,_,rfl⟩
 split at h;·cases h;cases Wz z with|zero=>exact⟨_,_,rfl⟩|succ n=>exact⟨_,_,rfl⟩
 split at h;·cases h;exact c st 0
 ·cases h
theorem PZ.gX{C x p q:Addr}{H H':Hp}{f:Fo}{xs:List V}(h:PZ K C H x p f)(hq:H q=some (.lst xs))(ne:p≠q)(s:eR q H H'):PZ K C H' x p f:=by
 obtain⟨⟨ps,F,r⟩,hb⟩:=h;obtain⟨dx,d,a,hd⟩:=F.obj;refine⟨⟨ps,⟨⟨dx,d,s _ _ (λe=>by rw[e,hq]at a;cases a) a,?_⟩,s _ _ ne F.parts⟩,r.gX s λvs z=>by rw[hq]at z;cases z⟩,hb⟩;rcases hd with h|h;·exact .inl (h.imp (λh=>s _ _ (λe=>by rw[e,hq]at h;cases h) h) λ⟨o,h⟩=>⟨o,s _ _ (λe=>by rw[e,hq]at h;cases h) h⟩)
 ·exact .inr h
noncomputable abbrev Ent:=Addr×Addr×Fo
structure zM(K:PySem.W.Frag)(C:Addr)(H0 H:Hp)(pf pw:Addr)(st:List Ent):Prop where
 Fw:∀q∈st,PZ K C H q.1 q.2.1 q.2.2
 nd:(st.map (·.2.1)).Nodup
 fr:∀q∈st,H0 q.2.1=none
 Pa:∀q∈st,q.2.1≠pf
 Sw:∀q∈st,q.2.1≠pw
 le:∀q∈st,q.2.2.parts.length<=q.2.2.jz.length/\q.2.2.jz.length<=4/\q.2.2.word.length<=1000
section
variable{C pf pw:Addr}{H0 H H':Hp}{st:List Ent}
theorem zM.mono(S:zM K C H0 H pf pw st)(s:ay H H'):zM K C H0 H' pf pw st:=⟨λq h=>(S.Fw q h).mono s,S.nd,S.fr,S.Pa,S.Sw,S.le⟩
theorem zM.So{xs:List V}(S:zM K C H0 H pf pw st)(hq:H pf=some (.lst xs))(s:eR pf H H'):zM K C H0 H' pf pw st:=⟨λq h=>(S.Fw q h).gX hq (S.Pa q h) s,S.nd,S.fr,S.Pa,S.Sw,S.le⟩
theorem zM.tail{q:Ent}(S:zM K C H0 H pf pw (q::st)):zM K C H0 H pf pw st:=⟨λq h=>S.Fw q (cF _ h),(List.nodup_cons.mp S.nd).2,λq h=>S.fr q (cF _ h),λq h=>S.Pa q (cF _ h),λq h=>S.Sw q (cF _ h),λq h=>S.le q (cF _ h)⟩
theorem zM.take{x p a:Addr}{fo:Fo}{d:D}{ps:List V}(S:zM K C H0 H pf pw ((x,p,fo)::st))(F:Fm K C H x (.str fo.word) (Xk fo.name) (fo.jz.map V.str) p ps)(i:bg H fo.parts ps)(rd:Rep H d (.ref a))(lt:fo.parts.length<fo.jz.length)(f:H' p=some (.lst (ps++[.ref a])))(s:eR p H H'):zM K C H0 H' pf pw ((x,p,{fo with parts:=fo.parts++[d]})::st):=by
 have nt:∀vs,H p≠some (.tup vs):=λvs z=>by rw[F.parts]at z;cases z
 obtain⟨dx,c,b,hd⟩:=id F.obj;have g:x≠p:=λe=>by rw[e,F.parts]at b;cases b
 refine⟨λq h=>?_,S.nd,λq h=>?_,λq h=>?_,λq h=>?_,λq h=>?_⟩
 ·rcases List.mem_cons.mp h with rfl|h
  ·refine⟨⟨ps++[.ref a],⟨⟨dx,c,s _ _ g b,?_⟩,f⟩,(i.gX s nt).snoc (rd.gX s nt)⟩,(S.Fw (x,p,fo) cj).2⟩;rcases hd with h|h;·exact .inl (h.imp (λh=>s _ _ (λe=>by rw[e,F.parts]at h;cases h) h) λ⟨o,h⟩=>⟨o,s _ _ (λe=>by rw[e,F.parts]at h;cases h) h⟩)
   ·exact .inr h
  ·have n:=(List.nodup_cons.mp S.nd).1;exact(S.Fw q (cF _ h)).gX F.parts (λe=>n (List.mem_map.mpr ⟨q,h,e⟩)) s
 ·rcases List.mem_cons.mp h with rfl|h;·exact S.fr (x,p,fo) cj
  ·exact S.fr q (cF _ h)
 ·rcases List.mem_cons.mp h with rfl|h;·exact S.Pa (x,p,fo) cj
  ·exact S.Pa q (cF _ h)
 ·rcases List.mem_cons.mp h with rfl|h;·exact S.Sw (x,p,fo) cj
  ·exact S.Sw q (cF _ h)
 ·rcases List.mem_cons.mp h with rfl|h;·have :=S.le (x,p,fo) cj;refine⟨?_,this.2⟩;show(fo.parts++[d]).length<=fo.jz.length;rw[iQ,List.length_singleton];exact lt
  ·exact S.le q (cF _ h)
theorem HS{x p N:Addr}{fo:Fo}{d:D}{v:V}{y:Str}{ds:List D}{Q:VK}{E:XK}(S:zM K C H0 H pf pw ((x,p,fo)::st))(rd:Rep H d v)(hd:d= .tup (.str y::ds))(e1:fI fo d=none->E (.ref N) none H)(q:∀g:Fo,fI fo d=some g->∀H',zM K C H0 H' pf pw ((x,p,g)::st)->eR p H H'->Q .aO H'):ub K C N [.ref x,v] H Q E:=by
 obtain⟨⟨ps,F,f⟩,_⟩:=S.Fw (x,p,fo) cj;dsimp only at F f;have k:=S.le (x,p,fo) cj;dsimp only at k;subst hd;obtain⟨a,o,rfl,ha,r,us,rfl,⟨rfl,m⟩,n⟩:=id rd;have i:=f.length;have l:(fo.jz.map V.str).length=fo.jz.length:=cy _;have get:∀b:Str,(fo.jz.map V.str)[ps.length]?=some (.str b)->fo.jz[fo.parts.length]?=some b:=λb h=>by rw[ny,i]at h;cases e:fo.jz[fo.parts.length]? with|none=>rw[e]at h;cases h|some y=>rw[e]at h;have :=Option.some.inj h;injection this with this;rw[this]
 refine⟨x,p,a,_,_,fo.jz.map V.str,ps,us,y,rfl,F,ha,by omega,λc=>e1 ?_,λb h c=>e1 ?_,λc=>?_⟩;·unfold fI;rw[List.getElem?_eq_none (by omega)]
 ·unfold fI;rw[get b h];exact if_neg c
 ·have lt:fo.parts.length<fo.jz.length:=by omega
  refine⟨fo.jz[fo.parts.length],by rw[i,ny,dR lt];rfl,λc H' h' s=>?_⟩;have j:fI fo (.tup (.str y::ds))=some {fo with parts:=fo.parts++[.tup (.str y::ds)]}:=by unfold fI;rw[dR lt];exact if_pos c
  exact q _ j H' (S.take F f rd lt h' s) s
theorem zM.push{x p:Addr}{fo:Fo}{xs ys:List V}(S:zM K C H0 H pf pw st)(s:ay H H')(g:ay H0 H)(b:H pf=some (.lst xs))(c:H pw=some (.lst ys))(a:H p=none)(F:Fm K C H' x (.str fo.word) (Xk fo.name) (fo.jz.map V.str) p [])(e:fo.parts=[])(Xl:fo.jz.length<=4)(hw:fo.word.length<=1000)(hb:fo.name.isSome=true->∃i:Int,KTD.datumAt fo.word BO=some (.int i)):zM K C H0 H' pf pw ((x,p,fo)::st):=by
 have f:=S.mono s;refine⟨λq h=>?_,List.nodup_cons.mpr ⟨λh=>?_,S.nd⟩,λq h=>?_,λq h=>?_,λq h=>?_,λq h=>?_⟩
 ·rcases List.mem_cons.mp h with rfl|h;·exact⟨⟨[],F,by rw[e];rfl⟩,hb⟩
  ·exact f.Fw q h
 ·obtain⟨q,h1,h2⟩:=List.mem_map.mp h;obtain⟨⟨ps,d,_⟩,_⟩:=S.Fw q h1;have :=d.parts;rw[h2,a]at this;cases this
 ·rcases List.mem_cons.mp h with rfl|h;·exact g.free a
  ·exact S.fr q h
 ·rcases List.mem_cons.mp h with rfl|h;·exactλe=>by rw[show pf=p from e.symm,a]at b;cases b
  ·exact S.Pa q h
 ·rcases List.mem_cons.mp h with rfl|h;·exactλe=>by rw[show pw=p from e.symm,a]at c;cases c
  ·exact S.Sw q h
 ·rcases List.mem_cons.mp h with rfl|h;·exact⟨by rw[e];exact dA _,Xl,hw⟩
  ·exact S.le q h
end
noncomputable def kh(x:Addr)(a:Str):List Ent->Prop|[]=>False|[q]=>q.1=x/\q.2.2.jz=[a]|_::q::r=>kh x a (q::r)
theorem kh.head{x:Addr}{c:Str}{q b:Ent}{r:List Ent}(h:kh x c (q::r))(e1:b.1=q.1)(e2:b.2.2.jz=q.2.2.jz):kh x c (b::r):=by cases r with|nil=>exact⟨e1.trans h.1,e2.trans h.2⟩|cons a r=>exact h
theorem kh.push{x:Addr}{b:Str}{q:Ent}{r:List Ent}(h:kh x b r):kh x b (q::r):=by cases r with|nil=>exact h.elim|cons a r=>exact h
theorem aco(xs:List V)(k:Nat)(h:k<=xs.length):iZ xs (some (k:Int)) (some ((k:Int)+2))=(xs.drop k).take 2:=by
 unfold iZ;rw[show((k:Nat):Int)+2=((k+2:Nat):Int)by omega,HT.rG,HT.rG,Nat.min_eq_left h];by_cases h2:k+2<=xs.length;·rw[Nat.min_eq_left h2,show k+2-k=2 by omega]
 ·rw[Nat.min_eq_right (by omega),C2 (by rw[vb];omega),C2 (by rw[vb];omega)]
theorem FV(v:V)(l:List V):Du ((v::l).reverse) (-1)=some v:=by rw[List.reverse_cons];exact ME _ _
noncomputable abbrev yi(d:D):Bool:=fV d||ja d
def si(K:PySem.W.Frag)(N G:Addr):Sp:=λvs H Q E=>∃(T a:Str)(b:Addr)(names:List Str),vs=[.str T, .ref b, .str a]/\T.length<=99999/\H b=some (.lst (names.map V.str))/\names.length<=1000/\(jN T.cps.toList).length<=50000/\(∀z∈jN T.cps.toList,1<=z.length/\z.length<=1000)/\(eU names a ((jN T.cps.toList).map tx)=none->∀H',ay H H'->E (.ref N) none H')/\∀d:D,eU names a ((jN T.cps.toList).map tx)=some d->Rb d 60/\(∀(v:V)(H':Hp),ay H H'->Rep H' d v->yi d=false->Q v H')/\∀H',ay H H'->yi d=true->E (.ref G) none H'
theorem bE:aC ["text","names","due","words","whole","forms","place","word","form","closed"] ["text","names","due"] (ai fw):=⟨rfl,rfl,rfl,by decide+kernel,rfl,by decide+kernel,by decide+kernel⟩
theorem Mi(D:Df K mg "read_thing" fw ["text","names","due"])(M:Mg mg t)(aL:oJ K t.Form)(cN:jM K t.bp)(EZ:Am P w K mg b_ "words_of" 2 ["text"] GJ)(gd:Ph P w K mg "Form" t.Form 1 ["self","word","name","due"] (AU t.Form))(cX:jK P w K mg b_ t.Form "is_full" (1) ["self"] (yP K t.Form))(oz:jK P w K mg (c7 P w) t.Form "take" (2) ["self","thing"] (ub K t.Form t.bp))(vG:jK P w K mg (c7 P w) t.Form "closed" (2) ["self"] (C6 K t.Form t.bp))(JL:bO P w K mg (c7 P w) "form_of" (3) ["head"] (By K t.Form t.bp))(IQ:bO P w K mg (c7 P w) "leaf_of" (3) ["word","forms","names"] (GG K t.Form t.bp))(gO:bO P w K mg (c7 P w) "bounded" (64) ["thing"] (jF t.cw 60)):Am P w K mg (c7 P w) "read_thing" 66 ["text","names","due"] (si K t.bp t.cw):=by
 refine D.aa1 bE (λvs H Q E h=>?_) (λbase f bS A outer s H vs Q E hr h=>?_);·obtain⟨T,C,b,names,rfl,_⟩:=h;rfl
 obtain⟨T,C,b,names,rfl,hT,hb,hnl,hw1,hw2,qe,q⟩:=h;refine⟨_,(eG (Iq (i:=3) bE.nd rfl (dq rfl) (WK EZ hr.m rfl bh (aa (pv 0) ah))) (eG (EM (aR (i:=4) bE.nd rfl (dq rfl) (D8 gd hr.m rfl bh (aa aN (aa fO (aa (bJ (aa (pv 2) ah)) ah)))))) (eG (EM (aR (i:=5) bE.nd rfl (dq rfl) (gy (aa (pv 4) ah)))) (eG (EM (aR (i:=6) bE.nd rfl (dq rfl) au)) (eG (EM (Cv Dp (aG Hs (pv 6) (aM aF rfl M.cK bU (aa (pv 3) ah)) (aJ _)) (aj (aR (i:=7) bE.nd rfl (dq rfl) (aZ eO (pv 3) (pv 6) (λ_ _=>rfl))) (aj (zZ (i:=6) bE.nd rfl (dq rfl) au yl) (ak (bj (aG cx (pv 7) aN (aJ _)) (aj (aR (i:=8) bE.nd rfl (dq rfl) (aV JL hr.m rfl bc (aa (mS QW (pv 3) (lQ (pv 6)) (lQ (cR gA (pv 6) au))) ah))) (aj (jD (xh PySem.F.plainAttrs_list PySem.F.slot_list_append PySem.F.type_list_append gY (pv 5) (aa (pv 8) ah))) (ak (zZ (i:=6) bE.nd rfl (dq rfl) (f7 (aG Ks (eF (pv 8) rfl) fO (aJ _)) au au) yl)))) (ak (bj (aG cx (pv 7) aN (aJ _)) (aj (bj (aG cx (aM aF rfl M.cK bU (aa (pv 5) ah)) au (aJ _)) (ak (cB (G:=(λH'=>E (.ref t.bp) none H')) cN M.g_NoText (aa aN ah) (λpins σ H s e h' I m q=>da I m q))) aK) (aj (aR (i:=9) bE.nd rfl (dq rfl) (vy vG aL.cls hr.m bc (VA PySem.F.plainAttrs_list PySem.F.slot_list_pop PySem.F.type_list_pop UU (pv 5)))) (ak (jD (Sr oz aL.cls hr.m bc (aZ eO (pv 5) (Sn Mr au) (λ_ _=>rfl)) (aa (pv 9) ah)))))) (ak (jD (Sr oz aL.cls hr.m bc (aZ eO (pv 5) (Sn Mr au) (λ_ _=>rfl)) (aa (aV IQ hr.m rfl bc (aa (pv 7) (aa (pv 5) (aa (pv 1) ah)))) ah)))))))))))) (eG (EM (bj (L2.PW.pt (oO (aG oX (aM aF rfl M.cK bU (aa (pv 5) ah)) au (aJ _)) (jj (fH (dz (vy cX aL.cls hr.m bh (pv 4))))))) (ak (cB (G:=(λH'=>E (.ref t.bp) none H')) cN M.g_NoText (aa aN ah) (λpins σ H s e h' I m q=>da I m q))) aK)) (Di (EM (aB (aV gO hr.m rfl bc (aa (aZ eO (eF (pv 4) rfl) au (λ_ _=>rfl)) ah))))))))))),?_⟩;try dsimp only[iG,cQ]
 refine abC ?_;intro _ _ _ _ _ _ _;refine⟨_,rfl,T,rfl,(by omega),λpw H1 e1 s1 RL=>?_⟩;have ews:(jN T.cps.toList).map (λw=>V.str (tx w))=((jN T.cps.toList).map tx).map V.str:=by rw[List.map_map];rfl
 rw[ews]at RL;have hw3:∀z∈(jN T.cps.toList).map tx,1<=z.length/\z.length<=1000:=λz h=>by obtain⟨l,h1,rfl⟩:=List.mem_map.mp h;have :=hw2 l h1;rw[NN];exact this
 have hw4:((jN T.cps.toList).map tx).length<=50000:=by rw[cy];exact hw1
 clear ews hw1 hw2;generalize(jN T.cps.toList).map tx=ws at RL hw3 hw4 qe q;refine⟨_,rfl,(gZ rfl),λpd hpd x dx hx N0 Xd=>?_⟩;have t2:=av hpd (.tup [V.str C]);have WS:(upd H1 pd (.tup [V.str C])) pd=some (.tup [V.str C]):=aq;generalize upd H1 pd (.tup [V.str C])=H2 at t2 WS hx N0⊢;refine⟨x,dx, .str "", .aO, .ref pd,rfl,aq,λp H3 hp OA Ol hx3 keep=>⟨rfl,?_⟩⟩;have s23:ay H2 H3:=λb o h=>by have n1:b≠x:=aD h hx;have n2:b≠dx:=aD h N0;exact keep b o n1 (by rw[aI n1,aI n2];exact h)
 have A3:H2 p=none:=by
  rw[aI OA]at hp;by_cases e:p=dx;·rw[e];exact N0
  ·rw[aI e]at hp;exact hp
 clear hp keep;have s02:=s1.trans t2;have s03:=s02.trans s23;have OR:=s23 _ _ (t2 _ _ RL);clear hx N0 Xd;refine⟨_,rfl,(gZ rfl),λpf Q2=>?_⟩;have t4:=av Q2 (.lst [V.ref x]);have V7:(upd H3 pf (.lst [V.ref x])) pf=some (.lst [V.ref x]):=aq;have Pm:=s03.trans t4;have WA:=t4 _ _ OR;have aaw:H pf=none:=s03.free Q2;have aa0:pw≠pf:=λe=>by rw[e,Q2]at OR;cases OR
 have S4:zM K t.Form H (upd H3 pf (.lst [V.ref x])) pf pw [(x,p,WN C)]:=by
  refine⟨λq h=>?_,by simp,λq h=>?_,λq h=>?_,λq h=>?_,λq h=>?_⟩;all_goals(rw[List.mem_singleton]at h;subst h)
  ·exact⟨⟨[],⟨⟨dx,pd,t4 _ _ hx3,bQ.of (t4 _ _ (s23 _ _ WS))⟩,t4 _ _ Ol⟩,rfl⟩,λz=>(nomatch z)⟩
  ·exact s02.free A3
  ·exactλe=>by rw[<-show p=pf from e,Ol]at Q2;cases Q2
  ·exactλe=>by have :=t2 _ _ RL;rw[<-show p=pw from e,A3]at this;cases this
  ·exact⟨dA _,by show 1<=4;decide,by show(Str.ofString "").length<=1000;decide+kernel⟩
 generalize upd H3 pf (.lst [V.ref x])=H4 at V7 Pm WA S4⊢;clear t4 Q2 hx3 Ol WS OR s03 s02 RL A3 t2 hpd s23 s1;let Iw:Nat->L2.St->Hp->Prop:=λm aS H'=>∃(k:Nat)(st:List Ent)(wv fv cv:Option V),aS=[some (.str T),some (.ref b),some (.str C),some (.ref pw),some (.ref x),some (.ref pf),some (.int (k:Nat)),wv,fv,cv]/\m=ws.length-k/\k<=ws.length/\zM K t.Form H H' pf pw st/\H' pf=some (.lst ((st.map λq=>V.ref q.1).reverse))/\H' pw=some (.lst (ws.map V.str))/\ay H H'/\kh x C st/\st.length<=k+1/\vA names ws.length (ws.drop k) (st.map (·.2.2))=vA names ws.length ws [WN C];refine⟨Iw,⟨_,0,[(x,p,WN C)],none,none,none,rfl,rfl,dA _,S4,V7,WA,Pm,⟨rfl,rfl⟩,by simp,rfl⟩,?_⟩;clear S4 V7 WA Pm;rintro m aS Z⟨k,st,wv,fv,cv,rfl,rfl,hk,S,B,E8,N,W,Rp,a⟩;refine⟨_,rfl,_,rfl,pw,_,rfl, .inl (bI.of E8),_,_,rfl,rfl,_,rfl,?_⟩;have Vz:(ws.map V.str).length=ws.length:=cy _;by_cases hkl:k<ws.length
 ·refine a_ (λ_=>?_) (λc=>absurd (decide_eq_true (by rw[Vz];omega)) c);refine⟨λaS H'=>∃m',m'<ws.length-k/\Iw m' aS H',λaS H' h=>h,?_⟩;obtain⟨z,hz⟩:∃z,ws[k]?=some z:=⟨ws[k],dR hkl⟩;have hzm:z∈ws:=vI hz;have hdk:ws.drop k=z::ws.drop (k+1):=by rw[El hkl];rw[dR hkl]at hz;rw[Option.some.inj hz]
  obtain⟨n,hn⟩:∃n,ws.length=n+1:=⟨ws.length-1,by omega⟩;have fuel:∀(Rj:List Str)(A0:List Fo),Rj.length<=n->vA names ws.length Rj A0=vA names n Rj A0:=λRj A0 h=>rC names _ _ _ _ (by omega) h;rw[hdk]at a;have a:vA names (n+1) (z::ws.drop (k+1)) (st.map (·.2.2))=vA names ws.length ws [WN C]:=by rw[<-hn];exact a
  have Oh:(ws.drop (k+1)).length<=n:=by rw[vb];omega
  generalize U:vA names ws.length ws [WN C]=R at a;have W6:R=none->∀H',ay H H'->E (.ref t.bp) none H':=λe=>qe (by unfold eU;rw[U,e];rfl);refine⟨_,rfl,_,rfl,pw,_,_,_,rfl,rfl,bI.of E8,aH (j:=k) (by rw[ny,hz];rfl),?_⟩;refine⟨_,rfl,_,_,rfl,rfl,?_⟩;have ez:∀y:Str,decide (V.str z=V.str y)=decide (z=y):=λy=>by
   by_cases h:z=y;·rw[h];simp
   ·rw[decide_eq_false h];exact decide_eq_false λq=>h (by injection q)
  refine⟨_,rfl,rfl,_,rfl,?_⟩;rw[ez];simp only[vA]at a;by_cases c1:z="("
  ·rw[if_pos c1]at a;rw[decide_eq_true c1];refine dS ?_;refine⟨_,rfl,_,rfl,((k+1:Nat):Int),rfl,_,rfl,_,_,rfl,rfl,((k+1:Nat):Int)+2,rfl,pw,_,rfl,bI.of E8,λph hph=>?_⟩;rw[aco _ _ (by rw[Vz];omega),<-List.map_drop,<-List.map_take];have t6:=av hph (.lst (((ws.drop (k+1)).take 2).map V.str));have Yj:(upd Z ph (.lst (((ws.drop (k+1)).take 2).map V.str))) ph=some (.lst (((ws.drop (k+1)).take 2).map V.str)):=aq;generalize upd Z ph (.lst (((ws.drop (k+1)).take 2).map V.str))=L at t6 Yj⊢;have J:=N.trans t6;refine⟨ph,_,rfl,Yj,by rw[List.length_take];omega,λy hy=>(hw3 y (List.mem_of_mem_drop (List.mem_of_mem_take hy))).2,λe X Y=>W6 ?_ X (J.trans Y),λfo e xn pn X Y hx7 hp7 acQ F7=>?_⟩;·rw[e]at a;exact a.symm
   rw[e]at a;have a:vA names n ((ws.drop (k+1)).drop (if fo.name=none then 1 else 2)) (fo::st.map (·.2.2))=R:=a;obtain⟨e1,e2,e3,e4,e5⟩:=EY e;have s67:=t6.trans Y;have hwo:fo.word.length<=1000:=by rw[e5];unfold m9;cases hh:(ws.drop (k+1)).take 2 with|nil=>decide+kernel|cons y l=>exact(hw3 y (List.mem_of_mem_drop (List.mem_of_mem_take (hh▸cj)))).2
   have S7:=S.push (fo:=fo) (x:=xn) (p:=pn) s67 N B E8 (t6.free hp7) F7 e1 e2 hwo e3;have Ut:=s67 _ _ B;refine⟨_,rfl, .inl ⟨rfl,_,bI.of Ut⟩,_,rfl,pf,_,_,rfl,rfl,Ut,(by rw[sizeLine_eq,List.length_reverse,cy];omega),?_⟩;have O:eR pf X (upd X pf (.lst ((st.map λq=>V.ref q.1).reverse++[V.ref xn]))):=eR.upd _;have aaU:(upd X pf (.lst ((st.map λq=>V.ref q.1).reverse++[V.ref xn]))) pf=some (.lst ((st.map λq=>V.ref q.1).reverse++[V.ref xn])):=aq;generalize upd X pf (.lst ((st.map λq=>V.ref q.1).reverse++[V.ref xn]))=H8 at O aaU⊢;have S8:=S7.So Ut O;obtain⟨⟨ps8,F8,_⟩,_⟩:=S8.Fw _ cj;dsimp only at F8;obtain⟨dx8,d8,hx8,hd8⟩:=id F8.obj;have aci:H8 pw=some (.lst (ws.map V.str)):=O _ _ aa0 (s67 _ _ E8);have s8:ay H H8:=λb' o h=>O _ _ (aD h aaw) (s67 _ _ (N _ _ h));have hl2:((ws.drop (k+1)).take 2).length<=ws.length-(k+1):=by rw[List.length_take,vb];omega
   have fin:∀c:Nat,c=(if fo.name=none then 1 else 2)->Iw (ws.length-(k+1+c)) [some (.str T),some (.ref b),some (.str C),some (.ref pw),some (.ref x),some (.ref pf),some (.int ((k+1+c:Nat):Int)),some (.str z),some (.ref xn),cv] H8:=λc hc=>by
    rw[<-hc]at e4 a;refine⟨k+1+c,(xn,pn,fo)::st,_,_,_,rfl,rfl,by omega,S8,?_,aci,s8,W.push,by rw[dY];omega,?_⟩;·rw[aaU,dQ,List.reverse_cons]
    ·rw[U,fuel _ _ (by rw[vb];omega),<-a,List.drop_drop];rfl
   refine⟨_,rfl,_,rfl,xn,t.Form,dx8,_,_,rfl,hx8,aL.cls,aL.name,rfl,rfl,_,rfl,?_⟩;cases DJ:fo.name with|none=>exact dS ⟨_,_,rfl,rfl,_,by omega,fin 1 (by rw[DJ,if_pos rfl])⟩|some y=>exact ff ⟨_,_,rfl,rfl,_,by omega,fin 2 (by rw[DJ,if_neg (by simp)])⟩
  rw[if_neg c1]at a;rw[decide_eq_false c1];refine ff ⟨_,rfl,rfl,_,rfl,?_⟩;rw[ez];by_cases c2:z=")"
  ·rw[if_pos c2]at a;rw[decide_eq_true c2];refine dS ?_;refine⟨_,rfl,pf,_,rfl, .inl (bI.of B),rfl,_,rfl,?_⟩;match st,W,B,a,S,Rp with
    |[q0],W,B,a,S,Rp=>refine a_ (λ_=>?_) (λc=>absurd (decide_eq_true rfl) c);exact⟨by decide,W6 a.symm Z N⟩
    |(xa,pa,fa)::(u,pg,g)::r,W,B,a,S,Rp=>
     refine a_ (λc=>absurd (of_decide_eq_true c) (by intro z;injection z with z;simp at z;omega)) (λ_=>?_);have a:(if fa.parts.length=fa.jz.length then(match fI g (clD fa)with|some g'=>vA names n (ws.drop (k+1)) (g'::r.map (·.2.2))|none=>none)else none)=R:=a;have er:((xa,pa,fa)::(u,pg,g)::r).map (λq:Ent=>V.ref q.1)=V.ref xa::((u,pg,g)::r).map (λq:Ent=>V.ref q.1):=rfl;rw[er,List.reverse_cons]at B;refine⟨_,rfl, .inl ⟨rfl,_,bI.of B⟩,pf,_,_,rfl,rfl,B,(by rw[iQ,List.length_singleton,Nat.add_sub_cancel,List.getElem?_append_right (bf _),Nat.sub_self];rfl),?_⟩;rw[List.dropLast_concat];have x6:eR pf Z (upd Z pf (.lst ((((u,pg,g)::r).map (λq:Ent=>V.ref q.1)).reverse))):=eR.upd _;have Vc:(upd Z pf (.lst ((((u,pg,g)::r).map (λq:Ent=>V.ref q.1)).reverse))) pf=some (.lst ((((u,pg,g)::r).map (λq:Ent=>V.ref q.1)).reverse)):=aq;generalize upd Z pf (.lst ((((u,pg,g)::r).map (λq:Ent=>V.ref q.1)).reverse))=L at x6 Vc⊢;have S6:=S.So B x6;have J:ay H L:=λb' o h=>x6 _ _ (aD h aaw) (N _ _ h);have abe:L pw=some (.lst (ws.map V.str)):=x6 _ _ aa0 E8;obtain⟨⟨ps6,F6,rp6⟩,_⟩:=S6.Fw (xa,pa,fa) cj;have Yd:=S6.le (xa,pa,fa) cj;dsimp only at F6 rp6 Yd;have acS:=rp6.length;have hml:(fa.jz.map V.str).length=fa.jz.length:=cy _;obtain⟨dx6,d6,hx6,hd6⟩:=id F6.obj;refine⟨xa,dx6,_,rfl,hx6,rfl,xa,pa,_,_,_,ps6,rfl,F6,(by omega),λc=>W6 ?_ L J,λc pc X hpc Y=>?_⟩;·rw[if_neg (by omega)]at a;exact a.symm
     rw[if_pos (by omega)]at a;have S7:=S6.tail.mono Y;have rc:Rep X (clD fa) (.ref pc):=⟨pc,_,rfl,hpc,_,_,rfl,⟨rfl,Yd.2.2⟩,rp6.mono Y⟩;obtain⟨⟨ps7,F7,_⟩,_⟩:=S7.Fw (u,pg,g) cj;dsimp only at F7;obtain⟨dx7,d7,hx7,hd7⟩:=id F7.obj;have s07:=J.trans Y;refine⟨_,rfl,_,rfl,pf,_,_,_,rfl,rfl,bI.of (Y _ _ Vc),FV _ _,u,dx7,_,rfl,hx7,rfl,_,rfl,?_⟩;show ub K t.Form t.bp [.ref u, .ref pc] X (λ_ H1=>∃m',m'<ws.length-k/\Iw m' [some (.str T),some (.ref b),some (.str C),some (.ref pw),some (.ref x),some (.ref pf),some (.int ((k+1:Nat):Int)),some (.str z),fv,some (.ref pc)] H1) E;refine HS S7 rc rfl (λe=>W6 ?_ X s07) λg' e H8 S8 O=>?_;·rw[e]at a;exact a.symm
     rw[e]at a;have a:vA names n (ws.drop (k+1)) (g'::r.map (·.2.2))=R:=a;obtain⟨_,eg,_⟩:=Ce e;have npg:=S7.Pa (u,pg,g) cj;have Vh:=S7.Sw (u,pg,g) cj;have Vl:=S7.fr (u,pg,g) cj;refine⟨_,by omega,k+1,(u,pg,g')::r,_,_,_,rfl,rfl,by omega,S8,O _ _ (Ne.symm npg) (Y _ _ Vc),O _ _ (Ne.symm Vh) (Y _ _ abe),λb' o h=>O _ _ (aD h Vl) (s07 _ _ h),kh.head (q:=(u,pg,g)) W rfl (by rw[eg]),by simp only[dY]at Rp⊢;omega,?_⟩;rw[U,fuel _ _ Oh,<-a];rfl
  rw[if_neg c2]at a;rw[decide_eq_false c2];refine ff ?_;match st,W,B,a,S,Rp with
   |(u,pg,g)::r,W,B,a,S,Rp=>
    have a:(match fZ z names (g::r.map (·.2.2))with|some d=>(match fI g d with|some f'=>vA names n (ws.drop (k+1)) (f'::r.map (·.2.2))|none=>none)|none=>none)=R:=a;obtain⟨⟨ps5,F5,_⟩,_⟩:=S.Fw (u,pg,g) cj;dsimp only at F5;obtain⟨dx5,d5,hx5,hd5⟩:=id F5.obj;have hwz:=hw3 z hzm;refine⟨_,rfl,_,rfl,pf,_,_,_,rfl,rfl,bI.of B,FV _ _,u,dx5,_,rfl,hx5,rfl,_,rfl,_,rfl,_,rfl,pf,b,z,(u,pg,g)::r,names,rfl,B,(by omega),S.Fw,N _ _ hb,hnl,hwz.1,hwz.2,λe L J=>W6 ?_ L (N.trans J),λd e v L J r6=>?_⟩;·have e:fZ z names (g::r.map (·.2.2))=none:=e;rw[e]at a;exact a.symm
    have e:fZ z names (g::r.map (·.2.2))=some d:=e;rw[e]at a;have a:(match fI g d with|some f'=>vA names n (ws.drop (k+1)) (f'::r.map (·.2.2))|none=>none)=R:=a;obtain⟨y,ds,hyd⟩:=Ka e;have S6:=S.mono J;have s06:=N.trans J;show ub K t.Form t.bp [.ref u,v] L (λ_ H1=>∃m',m'<ws.length-k/\Iw m' [some (.str T),some (.ref b),some (.str C),some (.ref pw),some (.ref x),some (.ref pf),some (.int ((k+1:Nat):Int)),some (.str z),fv,cv] H1) E;refine HS S6 r6 hyd (λe=>W6 ?_ L s06) λg' e H8 S8 O=>?_;·rw[e]at a;exact a.symm
    rw[e]at a;have a:vA names n (ws.drop (k+1)) (g'::r.map (·.2.2))=R:=a;obtain⟨_,eg,_⟩:=Ce e;have npg:=S6.Pa (u,pg,g) cj;have Vh:=S6.Sw (u,pg,g) cj;have Vl:=S6.fr (u,pg,g) cj;refine⟨_,by omega,k+1,(u,pg,g')::r,_,_,_,rfl,rfl,by omega,S8,O _ _ (Ne.symm npg) (J _ _ B),O _ _ (Ne.symm Vh) (J _ _ E8),λb' o h=>O _ _ (aD h Vl) (s06 _ _ h),kh.head (q:=(u,pg,g)) W rfl (by rw[eg]),by simp only[dY]at Rp⊢;omega,?_⟩;rw[U,fuel _ _ Oh,<-a];rfl
 ·refine a_ (λc=>absurd (of_decide_eq_true c) (by rw[Vz];omega)) (λ_=>?_);have hke:k=ws.length:=by omega
  have U:vA names ws.length ws [WN C]=some (st.map (·.2.2)):=by rw[<-a,hke,List.drop_length];cases ws.length<;>rfl
  refine⟨_,rfl,pf,_,rfl, .inl (bI.of B),_,_,rfl,rfl,_,rfl,?_⟩;match st,W,B,U,S with
   |q0::q1::r,_,B,U,S=>refine a_ (λ_=>?_) (λc=>absurd (decide_eq_true (by simp;omega)) c);refine dS ⟨by decide,qe ?_ Z N⟩;unfold eU;rw[U];rfl
   |[(x',p0,f0)],W,B,U,S=>
    obtain⟨rfl,hf0⟩:=W;refine a_ (λc=>absurd (of_decide_eq_true c) (by simp)) (λ_=>?_);obtain⟨⟨ps,F,rp⟩,_⟩:=S.Fw (x',p0,f0) (by simp);dsimp only at F rp;obtain⟨dx5,d5,hx5,hd5⟩:=id F.obj;have j0:=rp.length;have hle:=S.le (x',p0,f0) (by simp);dsimp only at hle;rw[hf0]at hle F;refine⟨_,rfl,x',dx5,_,rfl,hx5,rfl,x',p0,_,_,_,_,rfl,F,_,rfl,?_⟩;cases Cn:f0.parts with
     |nil=>rw[Cn]at rp j0;cases rp;refine dS ⟨by decide,qe ?_ Z N⟩;unfold eU;rw[U];show f0.parts.head?=none;rw[Cn];rfl
     |cons d l=>
      rw[Cn]at rp j0 hle;have :l=[]:=by cases l with|nil=>rfl|cons _ _=>simp at hle
      subst this;obtain⟨v,vs,rfl,rd,e0⟩:=rp;cases e0;obtain⟨rz,q1,q2⟩:=q d (by unfold eU;rw[U];show f0.parts.head?=some d;rw[Cn];rfl);refine ff ⟨_,rfl,x',t.Form,dx5,_,_,rfl,hx5,aL.cls,aL.parts,rfl,p0,_,_,v,rfl,rfl,bI.of F.parts,aH (j:=0) rfl,d,v,rfl,rd,rz,λL J hv=>q1 v L (N.trans J) (rd.mono J) hv,λL J hv=>q2 L (N.trans J) hv⟩
noncomputable def uO(d:D):Bool:=NW d&&!L7 d
def Dn:Sp:=λvs H Q _=>∃d v,vs=[v]/\Rep H d v/\Q (.bl (uO d)) H
theorem zu:aC ["value"] ["value"] (ai gu):=⟨rfl,rfl,rfl,by decide+kernel,rfl,by decide+kernel,by decide+kernel⟩
theorem A6(D:Df K mg "is_number" gu ["value"])(M:Mg mg t):bO P w K mg b_ "is_number" (1) ["value"] Dn:=by
 refine D.ok zu (λvs H Q E h=>?_) (λbase f bS A outer s H vs Q E b h=>?_);·obtain⟨d,v,rfl,_⟩:=h;rfl
 obtain⟨d,v,rfl,r,q⟩:=h;refine⟨_,(ak (aB (nH (aM cI rfl M.cn bX (aa (pv 0) (aa (oF M.F_ Ao rfl) ah))) (nU (T5 (aM cI rfl M.cn bX (aa (pv 0) (aa (oF M.E6 yY rfl) ah)))))))),?_⟩;try dsimp only[iG,a]
 refine⟨_,rfl,_,_,_,_,rfl,r.ty,O4 _ d,_,rfl,?_⟩;refine a_ (λc=>?_) (λc=>?_)
 ·refine⟨_,rfl,_,_,_,_,rfl,r.ty,Ee _ d,_,rfl,?_⟩;have e:uO d=!L7 d:=by unfold uO;rw[c];rfl
  rw[e]at q;exact q
 ·have e:uO d=false:=by unfold uO;rw[Bool.eq_false_iff.mpr c];rfl
  rw[e]at q;exact q
noncomputable def uo:D->List D| .tup (.str x::ps)=>az x ps|_=>[]
noncomputable def dM(d:D)(i:Int):Option D:=if 0<=i then(uo d)[i.toNat]? else none
noncomputable def goto:D->List Int->Option D|d,[]=>some d|d,i::is=>match dM d i with|none=>none|some p=>goto p is
noncomputable def headD:D->Str| .tup (.str x::_)=>x|_=>""
noncomputable def bnd(d:D)(i:Int):Int:=if decide (V.int i=jZ (headD d))=true then 1 else 0
noncomputable def over:D->List Int->Int|_,[]=>0|d,i::is=>match dM d i with|none=>0|some p=>bnd d i+over p is
theorem lB{d p:D}{i:Int}(h:Wf d)(e:dM d i=some p):Wf p:=by
 obtain⟨k,h⟩:=h;obtain⟨x,ps,rfl⟩:=cz h;unfold dM at e;split at e;·exact(i_ h e).1
 ·cases e
theorem fC{d p:D}{i:Int}{is:List Int}(e:dM d i=some p):goto d (i::is)=goto p is:=by rw[goto,e]
theorem gP{d:D}{i:Int}{is:List Int}(e:dM d i=none):goto d (i::is)=none:=by rw[goto,e]
theorem NC{d:D}{i:Int}(h1:0<=i)(h2:i<(uo d).length):∃p,dM d i=some p/\(uo d)[i.toNat]?=some p:=by unfold dM;rw[if_pos h1];exact⟨_,dR (by omega),dR (by omega)⟩
theorem wW{d:D}{i:Int}(h:¬(0<=i/\i<(uo d).length)):dM d i=none:=by
 unfold dM;split;·rename_i h1;exact List.getElem?_eq_none_iff.mpr (by omega)
 ·rfl
def pW(C:Addr):Sp:=λvs H Q E=>∃(d:D)(v:V)(i:Int),vs=[v, .int i]/\Rep H d v/\Wf d/\(∀(p:D)(u:V)(H':Hp),ay H H'->dM d i=some p->Rep H' p u->Q u H')/\(∀H',ay H H'->dM d i=none->E (.ref C) none H')
theorem wD:aC ["thing","number","kids"] ["thing","number"] (ai mO):=⟨rfl,rfl,rfl,by decide+kernel,rfl,by decide+kernel,by decide+kernel⟩
theorem Nv(D:Df K mg "kid_at" mO ["thing","number"])(M:Mg mg t)(o:jM K t.bP)(B:bO P w K mg b_ "kids_of" (1) ["thing"] gE)(y:bO P w K mg b_ "is_number" (1) ["value"] Dn):bO P w K mg (c7 P w) "kid_at" (2) ["thing","number"] (pW t.bP):=by
 refine D.xV wD (λvs H Q E h=>?_) (λbase f bS A outer s H vs Q E g h=>?_);·obtain⟨d,v,i,rfl,_⟩:=h;rfl
 obtain⟨d,v,i,rfl,r,wf,q,N⟩:=h;obtain⟨x,ps,k,rfl,T,J⟩:=tX wf;refine⟨_,(aj (aR (i:=2) wD.nd rfl (dq rfl) (aV B g.m rfl bh (aa (pv 0) ah))) (aj (bj (L2.PW.pt (oO (fH (dz (aV y g.m rfl bh (aa (pv 1) ah)))) (jj (fH (BJ HM Hs au (pv 1) (aM aF rfl M.cK bU (aa (pv 2) ah))))))) (ak (cB (G:=(λH'=>E (.ref t.bP) none H')) o M.g_NoPlace (aa aN ah) (λpins σ H s e h' I m q=>da I m q))) aK) (ak (aB (aZ eO (pv 2) (pv 1) (λ_ _=>rfl)))))),?_⟩;try dsimp only[iG,R]
 refine xD ?_;intro _ _ _;refine⟨_,rfl,x,ps,v,rfl,r,J,λl us a S s1 h1 n=>?_⟩;have j:=n.length;have F:uo (.tup (.str x::ps))=az x ps:=rfl;refine⟨_,rfl, .int i,_,rfl,rfl,?_⟩;have b:dM (.tup (.str x::ps)) i=none->E (.ref t.bP) none a:=λz=>N a s1 z;refine⟨true,rfl,ff ⟨_,rfl,_,_,rfl,rfl,_,rfl,?_⟩⟩;refine a_ (λc=>?_) (λc=>?_)
 ·have c:(0:Int)<=i:=of_decide_eq_true c;refine⟨_,rfl,l,_,rfl, .inl (bI.of h1),_,_,rfl,rfl,_,rfl,?_⟩;by_cases c2:i<((us.length:Nat):Int)
  ·rw[decide_eq_true c2];refine ff ?_;obtain⟨p,e1,e2⟩:=NC (d:= .tup (.str x::ps)) c (by rw[F,<-j];exact c2);obtain⟨u,L,O⟩:=n.get e2;have C:i=((i.toNat:Nat):Int):=by omega
   exact⟨_,rfl,_,rfl,l,_,_,u,rfl,rfl,bI.of h1,(by rw[C];exact aH L),q p u a s1 e1 O⟩
  ·rw[decide_eq_false c2];exact dS ⟨by decide,b (wW λz=>c2 (by rw[j];exact z.2))⟩
 ·have c:¬(0:Int)<=i:=of_decide_eq_false (Bool.eq_false_iff.mpr c);exact⟨_,rfl,dS ⟨by decide,b (wW λz=>c z.1)⟩⟩
noncomputable def QB(pl:List Int):D:= .tup (pl.map D.int)
theorem Ud{H:Hp}{pl:List Int}{vs:List V}(r:bg H (pl.map D.int) vs){j:Nat}{i:Int}(e:pl[j]?=some i):vs[j]?=some (.int i):=by obtain⟨v,h1,h2⟩:=r.get (i:=j) (d:= .int i) (by rw[ny,e];rfl);rw[h1,show v=V.int i from h2]
theorem drop_cons{a:Type}{l:List a}{j:Nat}{i:a}(e:l[j]?=some i):l.drop j=i::l.drop (j+1):=by obtain⟨h,rfl⟩:=List.getElem?_eq_some_iff.mp e;exact El h
def V0(C:Addr):Sp:=λvs H Q E=>∃(d:D)(v:V)(pl:List Int)(pv:V),vs=[v,pv]/\Rep H d v/\Wf d/\Rep H (QB pl) pv/\(∀(e:D)(u:V)(H':Hp),ay H H'->goto d pl=some e->Rep H' e u->Q u H')/\(∀H',ay H H'->goto d pl=none->E (.ref C) none H')
theorem gj:aC ["thing","place","here","number"] ["thing","place"] (ai ir):=⟨rfl,rfl,rfl,by decide+kernel,rfl,by decide+kernel,by decide+kernel⟩
theorem EA(D:Df K mg "at_place" ir ["thing","place"])(M:Mg mg t)(z:bO P w K mg (c7 P w) "kid_at" (2) ["thing","number"] (pW t.bP)):bO P w K mg (c7 P w) "at_place" (3) ["thing","place"] (V0 t.bP):=by
 refine D.xV gj (λvs H Q E h=>?_) (λbase f bS A outer s H vs Q E C h=>?_);·obtain⟨d,v,pl,pv,rfl,_⟩:=h;rfl
 obtain⟨d,v,pl,pv,rfl,r,wf,I,q,F⟩:=h;obtain⟨a,ws,rfl,ha,y⟩:=I;have x:=y.length;rw[cy]at x;refine⟨_,(aj (aR (i:=2) gj.nd rfl (dq rfl) (pv 0)) (aj (gD Dp rfl (tL (pv 1)) (bx (i:=3) gj.nd rfl (dq rfl)) (ak (aR (i:=2) gj.nd rfl (dq rfl) (aV z C.m rfl bc (aa (pv 2) (aa (pv 3) ah)))))) (ak (aB (pv 2))))),?_⟩;try dsimp only[iG,N]
 refine xD ?_;intro _ _ _;refine⟨_,rfl,_,rfl,a,rfl,⟨_,bQ.of ha⟩,?_⟩;let B:Nat->L2.St->Hp->Prop:=(λj n H'=>∃(e:KM.D)(u:V)(k:Option V),n=[some v,some (.ref a),some u,k]/\Rep H' e u/\Wf e/\goto d pl=goto e (pl.drop j)/\ay H H');refine iU ws.length B ?_ ?_ ?_;·exact⟨d,v,none,rfl,r,wf,rfl,ay.refl _⟩
 ·rintro j n o O⟨e,u,k,rfl,l,m,b,s1⟩;obtain⟨i,hi⟩:∃i,pl[j]?=some i:=⟨_,dR (by omega)⟩;have hw:=Ud y hi;refine⟨⟨ws,_,bQ.of (s1 _ _ ha),hw⟩,?_⟩;rintro R L⟨rfl,g⟩;have g:=g ws (bQ.of (s1 _ _ ha));rw[hw]at g;cases g;rw[drop_cons hi]at b;refine⟨_,rfl,_,rfl,e,u,i,rfl,l,m,λp J H' s' c G=>?_,λH' s' c=>?_⟩;·exact⟨p,J,_,rfl,G,lB m c,by rw[b,fC c],s1.trans s'⟩
  ·exact F H' (s1.trans s') (by rw[b,gP c])
 ·rintro n o⟨e,u,k,rfl,l,m,b,s1⟩;rw[x,List.drop_length]at b;exact⟨⟨ws,bQ.of (s1 _ _ ha),bf _⟩,_,rfl,q e u o s1 b l⟩
end K62
end
section
namespace K62
open PySem L2 L3 KM PyProof.Rows
noncomputable def putD:D->List Int->D->D|_,[],e=>e| .tup (.str x::ps),i::is,e=> .tup (.str x::ps.set i.toNat (putD ((ps[i.toNat]?).getD .aO) is e))|d,_::_,_=>d
theorem jG{x:Str}{ps:List D}{i:Int}{p:D}(h:dM (.tup (.str x::ps)) i=some p):0<=i/\dj x=false/\ps[i.toNat]?=some p:=by
 unfold dM at h;split at h
 ·rename_i a;have h:(az x ps)[i.toNat]?=some p:=h;unfold az at h;split at h;·simp at h
  ·rename_i b;exact⟨a,by simpa using b,h⟩
 ·cases h
theorem vv{x:Str}{ps:List D}{i:Int}{is:List Int}{p e:D}(h:dM (.tup (.str x::ps)) i=some p):putD (.tup (.str x::ps)) (i::is) e= .tup (.str x::ps.set i.toNat (putD p is e)):=by rw[putD,(jG h).2.2];rfl
theorem Fs{b:D->Bool}:∀{cs:List Nat}{ps:List D}{i c:Nat}{q:D},eK b cs ps=true->cs[i]?=some c->eE b c q=true->eK b cs (ps.set i q)=true|[],[],_,_,_,_,e,_=>by simp at e|[],_::_,_,_,_,h,_,_=>by simp[eK]at h|_::_,[],_,_,_,h,_,_=>by simp[eK]at h|a::cs,p::ps,0,c,q,h,e,hq=>by simp at e;subst e;rw[aP,bD]at h;rw[List.set_cons_zero,aP,hq,h.2];rfl|a::cs,p::ps,i+1,c,q,h,e,hq=>by rw[aP,bD]at h;rw[List.set_cons_succ,aP,h.1,Fs h.2 (by simpa using e) hq];rfl
theorem Fp{b:D->Bool}:∀{cs:List Nat}{ps:List D}{i:Nat}{p:D},eK b cs ps=true->ps[i]?=some p->∃c,cs[i]?=some c/\eE b c p=true|[],[],_,_,_,e=>by simp at e|[],_::_,_,_,h,_=>by simp[eK]at h|_::_,[],_,_,h,_=>by simp[eK]at h|a::cs,p::ps,0,q,h,e=>by simp at e;subst e;rw[aP,bD]at h;exact⟨a,rfl,h.1⟩|a::cs,p::ps,i+1,q,h,e=>by rw[aP,bD]at h;obtain⟨c,h1,h2⟩:=Fp (i:=i) h.2 (by simpa using e);exact⟨c,by simpa using h1,h2⟩
theorem Wb{b:D->Bool}{k a:Bool}{d:D}(h:bz b k d=true)(h':bz b a d=true):k=a:=by obtain⟨x,ps,rfl⟩:=cz h;obtain⟨_,_,e1,_⟩:=bF h;obtain⟨_,_,e2,_⟩:=bF h';rw[<-e1,<-e2]
theorem DS{e g:D}{l:Bool}(f:bz ar l g=true)(b:bz ar l e=true):∀(pl:List Int)(d:D)(k:Bool),bz ar k d=true->goto d pl=some g->bz ar k (putD d pl e)=true
 |[],d,k,h,z=>by cases z;rw[putD,Wb h f];exact b
 |i::is,d,k,h,z=>by
  obtain⟨x,ps,rfl⟩:=cz h;cases a:dM (.tup (.str x::ps)) i with
   |none=>rw[gP a]at z;cases z
   |some p=>
    rw[fC a]at z;rw[vv a];obtain⟨r,q,o⟩:=jG a;obtain⟨s,h1,h2,h3,h4,h5,h6,m,_⟩:=bF h;obtain⟨c,hc,hd⟩:=Fp h3 o;refine jn h1 h2 (Fs h3 hc ?_);have n:=m q c (vI hc);unfold eE at hd⊢;rcases n with j|j;·rw[if_pos j]at hd⊢;exact DS f b is p true hd z
    ·rw[if_neg (by omega),if_pos j]at hd⊢;exact DS f b is p false hd z
theorem wV{q:D}{m:Nat}(hq:depth q<=m):∀{ps:List D}{i:Nat},aw ps<=m->aw (ps.set i q)<=m|[],_,h=>by simpa using h|a::ps,0,h=>by rw[List.set_cons_zero];simp only[aw]at h⊢;omega|a::ps,i+1,h=>by rw[List.set_cons_succ];simp only[aw]at h⊢;have :=wV (q:=q) (m:=m) hq (ps:=ps) (i:=i) (by omega);omega
noncomputable def lJ(pl:List Nat):List Int:=pl.map λn:Nat=>(n:Int)
end K62
end
section
namespace K62
open PySem L2 L3 KM PyProof.Rows
seal L2.PE L2.PS L2.gR L2.PT L2.PW L2.PA L2.PG L2.zI L2.PI L2.PC L2.PO L2.E_ L2.PK L3.zD
variable{P:Program}{w:World}{K:PySem.W.Frag}{mg:Str->Option Value}{base:Heap}{t:wQ}
noncomputable def Je:D->Str| .tup (.str x::_)=>x|_=>""
noncomputable def Ic(inb:Str->Bool):D->V| .str y=>if inb y=true then .str "name"else .aO|_=> .aO
noncomputable def iI(inb:Str->Bool)(x:Str)(ps:List D):V:=if x="name"then Ic inb ((ps[0]?).getD .aO)else if x="app"then(if Je ((ps[0]?).getD .aO)="fun"then .str "fun"else .aO)else if x="carry"then(if Je ((ps[2]?).getD .aO)="like"then .str "like"else .aO)else if x="first"then(if Je ((ps[0]?).getD .aO)="pair"then .str "first"else .aO)else if x="second"then(if Je ((ps[0]?).getD .aO)="pair"then .str "second"else .aO)else if x="rec"then(if Je ((ps[3]?).getD .aO)="zero"then .str "zero"else if Je ((ps[3]?).getD .aO)="next"then .str "next"else .aO)else .aO
noncomputable def cb(inb:Str->Bool):D->V| .tup (.str x::ps)=>iI inb x ps|_=> .aO
theorem Ll{b:D->Bool}:∀{cs:List Nat}{ps:List D}{i c:Nat},eK b cs ps=true->cs[i]?=some c->∃p,ps[i]?=some p/\eE b c p=true|[],[],_,_,_,e=>by simp at e|[],_::_,_,_,h,_=>by simp[eK]at h|_::_,[],_,_,h,_=>by simp[eK]at h|a::cs,p::ps,0,c,h,e=>by simp at e;subst e;rw[aP,bD]at h;exact⟨p,rfl,h.1⟩|a::cs,p::ps,i+1,c,h,e=>by rw[aP,bD]at h;obtain⟨c,h1,h2⟩:=Ll (i:=i) h.2 (by simpa using e);exact⟨c,by simpa using h1,h2⟩
theorem part_of{k:Bool}{x s:Str}{ps:List D}(h:bz ar k (.tup (.str x::ps))=true)(a:du x= .str s){i:Nat}(hi:s.cps.toList[i]?=some 116):∃p,ps[i]?=some p/\bz ar false p=true:=by obtain⟨s',e1,_,e3,_⟩:=bF h;rw[a]at e1;cases e1;obtain⟨p,h1,h2⟩:=Ll e3 hi;exact⟨p,h1,by simpa[eE]using h2⟩
theorem Wv{H:Hp}{k:Bool}{p:D}{u:V}(h:bz ar k p=true)(r:Rep H p u):∃(c:Addr)(us:List V),u= .ref c/\H c=some (.tup (.str (Je p)::us)):=by obtain⟨x,ps,rfl⟩:=cz h;obtain⟨c,vs,rfl,hc,a,us,rfl,⟨rfl,_⟩,_⟩:=r;exact⟨c,us,rfl,hc⟩
theorem Nt{H:Hp}{k:Bool}{x s:Str}{ps:List D}{us:List V}(h:bz ar k (.tup (.str x::ps))=true)(r:bg H ps us)(a:du x= .str s){i:Nat}(hi:s.cps.toList[i]?=some 116):∃(c:Addr)(ws:List V),Du (V.str x::us) ((i+1:Nat):Int)=some (.ref c)/\H c=some (.tup (.str (Je ((ps[i]?).getD .aO))::ws)):=by obtain⟨p,h1,h2⟩:=part_of h a hi;obtain⟨u,b,d⟩:=r.get h1;obtain⟨c,ws,rfl,hc⟩:=Wv h2 d;refine⟨c,ws,aH (by simpa using b),?_⟩;rw[h1];exact hc
noncomputable def g6(aE:List (Key×V))(x:Str):Bool:=(d9 aE (Sum.inr x:Key)).isSome
def uf:Sp:=λvs H Q _=>∃(d:D)(v:V)(b:Addr)(aE:List (Key×V)),vs=[v, .ref b]/\Rep H d v/\Wf d/\H b=some (.dK aE)/\∀H',ay H H'->Q (cb (g6 aE) d) H'
theorem xo{k:Bool}{ps:List D}(h:bz ar k (.tup (.str "name"::ps))=true):∃y,ps=[.str y]:=by
 obtain⟨s',e1,_,e3,_⟩:=bF h;rw[fQ]at e1;cases e1;rw[Gr]at e3;match ps,e3 with
  |[],e3=>simp[eK]at e3
  |[p],e3=>
   rw[aP,bD]at e3;have :ar p=true:=by simpa[eE]using e3.1
   cases p with|str y=>exact⟨y,rfl⟩|_=>simp[ar]at this
  |p::q::r,e3=>rw[aP,bD]at e3;have :=e3.2;simp[eK]at this
def Rul(K:PySem.W.Frag)(r:Addr):Prop:=∃a1 a2 a3 a4 a5 a b c d e f:Addr,iy K r [("app", .ref a1),("rec", .ref a2),("carry", .ref a3),("first", .ref a4),("second", .ref a5)]/\m4 K a1 [.ref a]/\m4 K a [.int 1, .str "fun", .str "fun"]/\m4 K a2 [.ref b, .ref c]/\m4 K b [.int 4, .str "zero", .str "zero"]/\m4 K c [.int 4, .str "next", .str "next"]/\m4 K a3 [.ref d]/\m4 K d [.int 3, .str "like", .str "like"]/\m4 K a4 [.ref e]/\m4 K e [.int 1, .str "pair", .str "first"]/\m4 K a5 [.ref f]/\m4 K f [.int 1, .str "pair", .str "second"]
theorem abr(a b c d e:V)(x:Str):KTD.datumAt x [(("app":Str),a),("rec",b),("carry",c),("first",d),("second",e)]=if x="app"then some a else if x="rec"then some b else if x="carry"then some c else if x="first"then some d else if x="second"then some e else none:=by simp only[KTD.datumAt,decide_eq_true_eq]
noncomputable abbrev Rw:=Nat×Str×Str
noncomputable def v_(ps:List D)(r:Rw):Bool:=decide (Je ((ps[r.1]?).getD .aO)=r.2.1)
noncomputable def ej(ps:List D):List Rw->V|[]=> .aO|r::rs=>if v_ ps r=true then .str r.2.2 else ej ps rs
theorem jt{ps:List D}:∀{rows:List Rw}{i:Nat},(∀r∈rows.take i,v_ ps r=false)->ej ps rows=ej ps (rows.drop i)|rows,0,_=>rfl|[],i+1,_=>rfl|r::rs,i+1,h=>by have a:=h r (by simp);rw[ej,if_neg (by rw[a];decide),List.drop_succ_cons];exact jt λr b=>h r (by rw[List.take_succ_cons];exact cF _ b)
theorem h_:aC ["thing","book","part","word","rule"] ["thing","book"] (ai jA):=⟨rfl,rfl,rfl,by decide+kernel,rfl,by decide+kernel,by decide+kernel⟩
theorem Jj(D:Df K mg "rule_of" jA ["thing","book"])(M:Mg mg t)(T:Rul K t.HY):bO P w K mg b_ "rule_of" (1) ["thing","book"] uf:=by
 refine D.ok h_ (λvs H Q E h=>?_) (λbase f bS A outer s H vs Q E g h=>?_);·obtain⟨d,v,b,aE,rfl,_⟩:=h;rfl
 obtain⟨d,v,b,aE,rfl,r,wf,hb,q⟩:=h;have hu:=Bu g;obtain⟨x,ps,k,rfl,wfk,Cn⟩:=tX wf;obtain⟨a,Rk,rfl,ha,v0,us,rfl,⟨rfl,hx⟩,rp⟩:=id r;have Y:Du (V.str x::us) 0=some (.str x):=aH (j:=0) rfl;obtain⟨a1,a2,a3,a4,a5,b1,U,W,b4,b5,b6,TT,s1,s2,s3,s4,s5,s6,s7,s8,s9,IT,Oc⟩:=T;refine⟨_,(aj (bj (aG cx (aZ aW (pv 0) au (λ_ _=>rfl)) aN (aJ _)) (ak (aB (f7 (TY (U7 hu (aZ aW (pv 0) au (λ_ _=>rfl)) (pv 1))) aN fO))) aK) (aj (gD PassesOwn.never rfl (tL (BM (e_ M.g_RULES rfl) (aZ aW (pv 0) au (λ_ _=>rfl)) (bJ ah) ⟨rfl,rfl,rfl,rfl⟩)) (t9 (n:=3) rfl (cO (bx (i:=2) h_.nd rfl (dq rfl)) (cO (bx (i:=3) h_.nd rfl (dq rfl)) (cO (bx (i:=4) h_.nd rfl (dq rfl)) ma)))) (ak (bj (aG cx (aZ aW (aZ aW (pv 0) (pv 2) (λ_ _=>rfl)) au (λ_ _=>rfl)) (pv 3) (aJ _)) (ak (aB (pv 4))) aK))) (ak (aB fO)))),?_⟩;try dsimp only[iG,cQ]
 refine xD ?_;intro _ _ _;refine⟨_,rfl,a,_,_,_,rfl,rfl,bQ.of ha,Y,rfl,_,rfl,?_⟩;refine a_ (λc=>?_) (λc=>?_);·have c:V.str x=V.str "name":=of_decide_eq_true c;cases c;obtain⟨y,rfl⟩:=xo wfk;obtain⟨u,us',rfl,⟨rfl,_⟩,ru⟩:=rp;cases(show us'=[]from ru);have eq1:cb (g6 aE) (.tup [.str "name", .str y])=if g6 aE y=true then .str "name"else .aO:=rfl;rw[eq1]at q;have o:=q H (ay.refl H);refine⟨_,rfl,a,_,_, .str y,rfl,rfl,bQ.of ha,aH (j:=1) rfl,_,rfl,b,_,rfl,Dc.k (k:=Sum.inr y) hb,_,rfl,?_⟩;show if g6 aE y=true then _ else _;cases Se:g6 aE y with|true=>rw[Se]at o;exact o|false=>rw[Se]at o;exact o
 have nn:x≠"name":=λz=>c (by rw[z];decide+kernel);refine⟨t.HY,_,rfl,TT,_,rfl,a,_,_,_,rfl,rfl,bQ.of ha,Y,(gZ rfl),λp A3=>⟨x,rfl,?_⟩⟩;have B:=av A3 (.tup []);have Z:(upd H p (.tup [])) p=some (.tup []):=aq;have rp0:=rp.mono B;have ha0:=B _ _ ha;generalize upd H p (.tup [])=H0 at B Z rp0 ha0⊢;rw[abr];have key:∃(c:Addr)(rows:List Rw)(bs:List V),(if x="app"then some (V.ref a1)else if x="rec"then some (.ref a2)else if x="carry"then some (.ref a3)else if x="first"then some (.ref a4)else if x="second"then some (.ref a5)else none).getD (.ref p)= .ref c/\(∀m,ay H0 m->bQ K m c bs)/\bs.length=rows.length/\(∀(i:Nat)(r:Rw),rows[i]?=some r->∃b':Addr,bs[i]?=some (V.ref b')/\m4 K b' [.int ((r.1+1:Nat):Int), .str r.2.1, .str r.2.2])/\(∀r∈rows,∃s',du x= .str s'/\s'.cps.toList[r.1]?=some 116)/\iI (g6 aE) x ps=ej ps rows:=by
  have one:∀(r:Rw)(b':Addr),m4 K b' [.int ((r.1+1:Nat):Int), .str r.2.1, .str r.2.2]->∀(i:Nat)(l:Rw),[r][i]?=some l->∃S,[V.ref b'][i]?=some (.ref S)/\m4 K S [.int ((l.1+1:Nat):Int), .str l.2.1, .str l.2.2]:=λr b' h i l e=>by match i,e with|0,e=>cases e;exact⟨b',rfl,h⟩|i+1,e=>simp at e
  unfold iI;rw[if_neg nn];by_cases e1:x="app"
  ·subst e1;refine⟨a1,[(0,"fun","fun")],[.ref b1],by simp,λm _=> .inr s1,rfl,one _ _ s2,λr g=>?_,?_⟩;·rw[List.mem_singleton.mp g];exact⟨"tt",by decide+kernel,by decide+kernel⟩
   ·simp[ej,v_]
  by_cases e2:x="rec"
  ·subst e2;refine⟨a2,[(3,"zero","zero"),(3,"next","next")],[.ref U, .ref W],by simp[e1],λm _=> .inr s3,rfl,λi r e=>?_,λr g=>?_,?_⟩;·match i,e with|0,e=>cases e;exact⟨U,rfl,s4⟩|1,e=>cases e;exact⟨W,rfl,s5⟩|i+2,e=>simp at e
   ·have hr1:r.1=3:=by simp only[gF,jr,or_false]at g;rcases g with rfl|rfl<;>rfl
    rw[hr1];exact⟨"kttt",by decide+kernel,by decide+kernel⟩
   ·have n1:(Str.ofString "rec")≠Str.ofString "carry":=by decide+kernel
    have n2:(Str.ofString "rec")≠Str.ofString "first":=by decide+kernel
    have n3:(Str.ofString "rec")≠Str.ofString "second":=by decide+kernel
    rw[if_neg e1,if_neg n1,if_neg n2,if_neg n3,if_pos rfl];simp[ej,v_]
  by_cases e3:x="carry"
  ·subst e3;refine⟨a3,[(2,"like","like")],[.ref b4],by simp[e1,e2],λm _=> .inr s6,rfl,one _ _ s7,λr g=>?_,?_⟩;·rw[List.mem_singleton.mp g];exact⟨"ktt",by decide+kernel,by decide+kernel⟩
   ·simp[ej,v_,e1]
  by_cases e4:x="first"
  ·subst e4;refine⟨a4,[(0,"pair","first")],[.ref b5],by simp[e1,e2,e3],λm _=> .inr s8,rfl,one _ _ s9,λr g=>?_,?_⟩;·rw[List.mem_singleton.mp g];exact⟨"t",by decide+kernel,by decide+kernel⟩
   ·simp[ej,v_,e1,e3]
  by_cases I:x="second"
  ·subst I;refine⟨a5,[(0,"pair","second")],[.ref b6],by simp[e1,e2,e3,e4],λm _=> .inr IT,rfl,one _ _ Oc,λr g=>?_,?_⟩;·rw[List.mem_singleton.mp g];exact⟨"t",by decide+kernel,by decide+kernel⟩
   ·simp[ej,v_,e1,e3,e4]
  ·exact⟨p,[],[],by simp[e1,e2,e3,e4,I],λm hs=>bQ.of (hs _ _ Z),rfl,(λi r e=>by simp at e),(λr g=>absurd g (by simp)),(by simp[ej,e1,e2,e3,e4,I])⟩
 obtain⟨c,rows,bs,ec,hc,hl,VM,abq,TX⟩:=key;rw[ec];refine⟨c,rfl,⟨bs,hc H0 (ay.refl _)⟩,?_⟩;let Jm:Nat->L2.St->Hp->Prop:=(λi R H'=>∃(pv O N:Option V),R=[some (.ref a),some (.ref b),pv,O,N]/\(∀r∈rows.take i,v_ ps r=false)/\H'=H0);refine iU bs.length Jm ?_ ?_ ?_;·exact⟨none,none,none,rfl,λr g=>by simp at g,rfl⟩
 ·rintro i R m hi⟨pv',O,N,rfl,C,rfl⟩;obtain⟨l,F⟩:∃r,rows[i]?=some r:=⟨_,dR (by omega)⟩;obtain⟨b',hb',sb'⟩:=VM i l F;refine⟨⟨bs,_,hc _ (ay.refl _),hb'⟩,?_⟩;rintro x' H2⟨rfl,G⟩;have G:=G bs (hc _ (ay.refl _));rw[hb']at G;cases G;obtain⟨s',ks,ki⟩:=abq l (vI F);obtain⟨X,ws,Nj,hc0⟩:=Nt wfk rp0 ks ki;refine⟨b',_,rfl, .inr sb',rfl,_,_,rfl,_,_,rfl,_,_,rfl,rfl,?_⟩;refine⟨_,rfl,_,rfl,a,_,_, .ref X,rfl,rfl,bQ.of ha0,Nj,X,_,_,_,rfl,rfl,bQ.of hc0,aH (j:=0) rfl,_,rfl,rfl,_,rfl,?_⟩;have hd:rows.drop i=l::rows.drop (i+1):=by obtain⟨h,rfl⟩:=List.getElem?_eq_some_iff.mp F;exact El h
  refine a_ (λch=>?_) (λch=>?_)
  ·have ch:V.str (Je ((ps[l.1]?).getD .aO))=V.str l.2.1:=of_decide_eq_true ch;injection ch with ch;have L:v_ ps l=true:=decide_eq_true ch;refine⟨_,rfl,?_⟩;have J:cb (g6 aE) (.tup (.str x::ps))= .str l.2.2:=by show iI (g6 aE) x ps=_;rw[TX,jt C,hd,ej,if_pos L]
   have o:=q _ B;rw[J]at o;exact o
  ·have L:v_ ps l=false:=decide_eq_false λz=>ch (by rw[z];exact decide_eq_true rfl);refine⟨_,_,_,rfl,λr g=>?_,rfl⟩;rw[List.take_add_one,F]at g;rcases List.mem_append.mp g with g|g;·exact C r g
   ·have :r=l:=by simpa using g
    rw[this];exact L
 ·rintro R m⟨pv',O,N,rfl,C,rfl⟩;refine⟨⟨bs,hc _ (ay.refl _),bf _⟩,?_⟩;have J:cb (g6 aE) (.tup (.str x::ps))= .aO:=by show iI (g6 aE) x ps=_;rw[TX,jt C,hl,List.drop_length,ej]
  have o:=q _ B;rw[J]at o;exact o
seal L3.PH L3.PB
theorem Bg{H:Hp}:∀{ds:List D}{vs:List V}{d:D}{v:V}(i:Nat),bg H ds vs->Rep H d v->bg H (ds.set i d) (vs.set i v)|[],_,_,_,_,r,_=>by have r:_=[]:=r;subst r;exact rfl|_::_,_,_,_,0,⟨v,r,e,q,t⟩,h=>by subst e;exact⟨_,_,rfl,h,t⟩|_::_,_,_,_,i+1,⟨v,r,e,q,t⟩,h=>by subst e;exact⟨_,_,rfl,q,Bg i t h⟩
def G_(C:Addr)(n:Nat):Sp:=λvs H Q E=>∃(d:D)(v:V)(pl:List Int)(pv:V)(e:D)(a:V),vs=[v,pv,a]/\Rep H d v/\Wf d/\Rep H (QB pl) pv/\Rep H e a/\pl.length<n/\(∀(u:V)(H':Hp),ay H H'->(goto d pl).isSome=true->Rep H' (putD d pl e) u->Q u H')/\(∀H',ay H H'->goto d pl=none->E (.ref C) none H')
theorem gC:aC ["thing","place","new","kid","kids"] ["thing","place","new"] (ai dW):=⟨rfl,rfl,rfl,by decide+kernel,rfl,by decide+kernel,by decide+kernel⟩
theorem vP{n:Nat}(D:Df K mg "changed_at" dW ["thing","place","new"])(M:Mg mg t)(gT:bO P w K mg (c7 P w) "kid_at" (2) ["thing","number"] (pW t.bP))(ba:bO P w K mg b_ "kids_of" (1) ["thing"] gE)(c_:bO P w K mg b_ "rebuilt" (1) ["thing","kids"] gN)(g0:bO P w K mg (c7 P w) "changed_at" (n+3) ["thing","place","new"] (G_ t.bP n)):bO P w K mg (c7 P w) "changed_at" (n+4) ["thing","place","new"] (G_ t.bP (n+1)):=by
 refine D.xV gC (λvs H Q E h=>?_) (λbase f bS A outer s H vs Q E m h=>?_);·obtain⟨d,v,pl,pv,e,G,rfl,_⟩:=h;rfl
 obtain⟨d,v,pl,pv,e,G,rfl,r,wf,rp,X,hn,q,W⟩:=h;obtain⟨x,ps,k,rfl,wfk,T⟩:=tX wf;obtain⟨a,ws,rfl,ha,Y⟩:=id rp;have U:=Y.length;rw[cy]at U;refine⟨_,(aj (bj (aG cx (aM aF rfl M.cK bU (aa (pv 1) ah)) au (aJ _)) (ak (aB (pv 2))) aK) (aj (aR (i:=3) gC.nd rfl (dq rfl) (aV gT m.m rfl bc (aa (pv 0) (aa (aZ aW (pv 1) au (λ_ _=>rfl)) ah)))) (aj (aR (i:=4) gC.nd rfl (dq rfl) (aV ba m.m rfl bh (aa (pv 0) ah))) (aj (V1 (aV g0 m.m rfl bc (aa (pv 3) (aa (mS GO (pv 1) (lQ au) zK) (aa (pv 2) ah)))) (Up (pv 4) (aZ aW (pv 1) au (λ_ _=>rfl)) set_list)) (ak (aB (aV c_ m.m rfl bh (aa (pv 0) (aa (pv 4) ah))))))))),?_⟩;try dsimp only[iG,cQ]
 refine aai ?_;intro _ _ _ _ _;refine⟨_,rfl,a,_,rfl, .inr (bQ.of ha),rfl,_,rfl,?_⟩;refine a_ (λc=>?_) (λc=>?_);·have c:V.int ((ws.length:Nat):Int)=V.int 0:=of_decide_eq_true c;injection c with c;have J:pl=[]:=List.length_eq_zero_iff.mp (by omega);subst J;exact⟨_,rfl,q G H (ay.refl H) rfl X⟩
 have Gv:pl≠[]:=λz=>c (by subst z;have :ws.length=0:=U;rw[this];exact decide_eq_true rfl);obtain⟨i,is,rfl⟩:∃i is,pl=i::is:=by cases pl with|nil=>exact absurd rfl Gv|cons i is=>exact⟨i,is,rfl⟩
 obtain⟨u0,B,rfl,L,abO⟩:=Y;have L:u0=V.int i:=L;subst L;have S:Du (V.int i::B) 0=some (.int i):=aH (j:=0) rfl;refine⟨_,rfl,_,rfl,a,_,_,_,rfl,rfl,bQ.of ha,S,_,v,i,rfl,r,wf,λp u R s1 b ru=>?_,λR s1 b=>W R s1 (gP b)⟩;obtain⟨i0,hx,J⟩:=jG b;refine⟨_,rfl,x,ps,v,rfl,r.mono s1,T,λo us H2 BI s2 h2 N=>?_⟩;have l2:=N.length;have hk:az x ps=ps:=by unfold az;rw[hx];rfl
 rw[hk]at N l2;have Z:=s1.trans s2;refine⟨_,rfl,_,rfl,_,rfl,a,_,rfl,Z _ _ ha,λF H3 l h3=>?_⟩;have h3:H3 F=some (.tup B):=by have z:=xb (V.int i::B) 1;rw[show((1:Nat):Int)=1 from rfl]at z;rw[z]at h3;exact h3
 have y:=Z.trans l;refine⟨_,rfl,p,u,is, .ref F,e,G,rfl,ru.mono (s2.trans l),lB wf b,⟨F,B,rfl,h3,abO.mono y⟩,X.mono y,(by rw[dY]at hn;omega),λu2 C g I r4=>?_,λC g I=>W C (y.trans g) (by rw[fC b];exact I)⟩;have hl:i.toNat<us.length:=by have :=(List.getElem?_eq_some_iff.mp J).1;omega
 have DF:=y.trans g;refine⟨_,rfl,_,rfl,a,_,_,_,rfl,rfl,bQ.of (DF _ _ ha),S,o,us,_,i.toNat,rfl,rfl,(l.trans g) _ _ h2,?_,?_⟩;·unfold Od;rw[if_pos (by omega),if_pos (by omega)]
 have h24:=(l.trans g) _ _ h2;have hf:H o=none:=s1.free BI;have s5:ay H (upd C o (.lst (us.set i.toNat u2))):=gS DF hf;refine⟨_,rfl,_,rfl,x,ps,ps.set i.toNat (putD p is e),v,o,_,rfl,r.mono s5,aq,(Bg i.toNat (N.mono (l.trans g)) r4).vO h24,(by rw[List.length_set];exact T),λu5 H6 s6 O=>?_⟩;refine q u5 H6 (s5.trans s6) (by rw[fC b];exact I) ?_;rw[vv b];have abE:ps.set i.toNat (putD p is e)≠[]:=λz=>by have :=congrArg List.length z;rw[List.length_set]at this;have :ps.length=0:=this;omega
 unfold bT at O;rw[if_neg abE]at O;exact O
theorem lG(D:Df K mg "changed_at" dW ["thing","place","new"])(M:Mg mg t)(a:bO P w K mg (c7 P w) "kid_at" (2) ["thing","number"] (pW t.bP))(b:bO P w K mg b_ "kids_of" (1) ["thing"] gE)(c:bO P w K mg b_ "rebuilt" (1) ["thing","kids"] gN):∀n:Nat,bO P w K mg (c7 P w) "changed_at" (n+3) ["thing","place","new"] (G_ t.bP n)|0=>bO.never D λvs H Q E⟨d,v,pl,pv,e,f,_,_,_,_,_,h,_⟩=>absurd h (Nat.not_lt_zero _)|n+1=>vP D M a b c (lG D M a b c n)
def RY(C G:Addr)(n:Nat):Sp:=λvs H Q E=>∃(d:D)(v:V)(pl:List Int)(pv:V)(e:D)(a:V),vs=[v,pv,a]/\Rep H d v/\Wf d/\Rep H (QB pl) pv/\Rep H e a/\pl.length<100/\((goto d pl).isSome=true->Rz (putD d pl e) n)/\(∀(u:V)(H':Hp),ay H H'->(goto d pl).isSome=true->(fV (putD d pl e)||ja (putD d pl e))=false->Rep H' (putD d pl e) u->Q u H')/\(∀H',ay H H'->goto d pl=none->E (.ref C) none H')/\(∀H',ay H H'->(goto d pl).isSome=true->(fV (putD d pl e)||ja (putD d pl e))=true->E (.ref G) none H')
theorem DU:aC ["thing","place","new"] ["thing","place","new"] (ai jH):=⟨rfl,rfl,rfl,by decide+kernel,rfl,by decide+kernel,by decide+kernel⟩
theorem IV{n:Nat}(D:Df K mg "with_at" jH ["thing","place","new"])(M:Mg mg t)(hn:99<=n)(m:bO P w K mg (c7 P w) "changed_at" (103) ["thing","place","new"] (G_ t.bP 100))(l:bO P w K mg (c7 P w) "bounded" (n+4) ["thing"] (jF t.cw n)):bO P w K mg (c7 P w) "with_at" (n+5) ["thing","place","new"] (RY t.bP t.cw n):=by
 refine D.xV DU (λvs H Q E h=>?_) (λbase f bS A outer s H vs Q E j h=>?_);·obtain⟨d,v,pl,pw,e,i,rfl,_⟩:=h;rfl
 obtain⟨d,v,pl,pw,e,i,rfl,r,wf,y,x,hl,rz,q,o,p⟩:=h;refine⟨_,(ak (aB (aV l j.m rfl bc (aa (aV m j.m rfl bc (aa (pv 0) (aa (pv 1) (aa (pv 2) ah)))) ah)))),?_⟩;try dsimp only[iG,z]
 refine⟨_,rfl,_,rfl,_,rfl,d,v,pl,pw,e,i,rfl,r,wf,y,x,hl,λu g s1 a k=>?_,λg s1 a=>o g s1 a⟩;exact⟨_,u,rfl,k,rz a,λb s2 c=>q u b (s1.trans s2) a c (k.mono s2),λb s2 c=>p b (s1.trans s2) a c⟩
end K62
end
section
namespace L3
open PySem PySem.Spec PyProof.Rows L2 KM
noncomputable abbrev ic(qual:Str):HO:= .vD (.code qual)
structure gU(ps cs:List Str)(scope:Scope):Prop where
 kind:scope.kind= .function
 co:scope.isCoroutine=false
 gen:scope.isGenerator=false
 ni:∀x∈scope.names,x.2≠ .cell
 par:∀x∈ps,scope.names.lookup x=some .local
 nd:(ps++cs).Nodup
 free:∀x∈cs,scope.names.lookup x=some .free
 all:∀x,scope.names.lookup x=some .free->x∈cs
structure tU(h:Heap)(f c:Addr)(name qual:Str)(params:Arguments)(body:List Stmt)(scope:Scope)(cs:List Str)(ws:List V)(cl:List (Str×Addr))(doc pm ct:Value):Prop where
 fo:h.get? f=some {cls:= .type "function",data:= .func (PySem.W.fnX name qual params body scope cl .none .none doc pm none (.ref c) ct)}
 inj:∀x y a,cl.lookup x=some a->cl.lookup y=some a->x=y
 own:∀x a,cl.lookup x=some a->x∈cs
 cell:∀(i:Nat)(x:Str),cs[i]?=some x->∃(v:V)(a:Addr)(u:Value),ws[i]?=some v/\cl.lookup x=some a/\RelV v u/\h.IsCell a (some u)
 len:ws.length=cs.length
section
variable{h h':Heap}{f c:Addr}{name qual:Str}{params:Arguments}{body:List Stmt}{scope:Scope}{cs:List Str}{ws:List V}{cl:List (Str×Addr)}{doc pm ct:Value}
theorem tU.keeps(C:tU h f c name qual params body scope cs ws cl doc pm ct)(k:∀b o,h.get? b=some o->h'.get? b=some o):tU h' f c name qual params body scope cs ws cl doc pm ct:=⟨k _ _ C.fo,C.inj,C.own,λi x e=>let⟨v,a,u,h1,h2,h3,o,h4,h5⟩:=C.cell i x e;⟨v,a,u,h1,h2,h3,o,k _ _ h4,h5⟩,C.len⟩
end
noncomputable abbrev ky(qual:Str)(scope:Scope)(L f c:Addr)(cl:List (Str×Addr)):Env:=PySem.W.envX qual scope L f (.ref c) cl
noncomputable def BZ(CX:kL)(P:Program)(w:World)(K:PySem.W.Frag)(mg:Str->Option Value)(base:Heap)(N:List Str)(qual:Str)(scope:Scope)(f c:Addr)(cl:List (Str×Addr))(A:Around)(outer:List Env)(s:Shared)(H:Hp)(E:XK):Cx where prog:=P;w:=w;K:=K;mg:=mg;base:=base;A:=A.deeper (ky qual scope s.heap.objs.size f c cl);N:=N;bV:=s;H₀:=H;env:=ky qual scope s.heap.objs.size f c cl;outer:=outer;stack:=ky qual scope s.heap.objs.size f c cl::outer;ex:=[];calm:=true;fn:=λ_=>false;pn:=[];xe:=λe s'=>wpAny (model P w) (A.deeper (ky qual scope s.heap.objs.size f c cl)) (leaving (ky qual scope s.heap.objs.size f c cl) e) (λ_ a=>CX A.handled outer H s E e a) (λe' a=>CX A.handled outer H s E e' a) s'
theorem uR{a:Type}:∀{l:List (Str×a)}{x:Str}{v:a},(l.map (·.1)).Nodup->(x,v)∈l->l.lookup x=some v
 |[],_,_,_,h=>by cases h
 |(y,w)::l,x,v,nd,h=>by
  rw[dQ,List.nodup_cons]at nd;rw[jS];rcases List.mem_cons.mp h with e|h;·cases e;simp
  ·have b:x≠y:=λz=>nd.1 (by rw[<-z];exact List.mem_map.mpr ⟨(x,v),h,rfl⟩);have :(x==y)=false:=by simpa using b
   rw[this];exact uR nd.2 h
theorem xm:∀{ps:List Str}(us:List Value),ps.Nodup->((ps.zip us).map (·.1)).Nodup|[],us,_=>by simp|p::ps,[],_=>by simp|p::ps,u::us,nd=>by rw[List.nodup_cons]at nd;rw[List.zip_cons_cons,dQ,List.nodup_cons];refine⟨λh=>nd.1 ?_,xm us nd.2⟩;obtain⟨⟨a,b⟩,hm,e⟩:=List.mem_map.mp h;cases e;exact(List.of_mem_zip hm).1
theorem Lf{ps:List Str}{us:List Value}(nd:ps.Nodup){i:Nat}{x:Str}{u:Value}(h1:ps[i]?=some x)(h2:us[i]?=some u):(ps.zip us).reverse.lookup x=some u:=by have hm:(x,u)∈(ps.zip us).reverse:=List.mem_reverse.mpr (vI (i:=i) (by rw[List.getElem?_zip_eq_some];exact⟨h1,h2⟩));refine uR ?_ hm;have a:((ps.zip us).map (·.1)).Nodup:=xm us nd;rw[List.map_reverse];exact(List.reverse_perm _).nodup_iff.mpr a
theorem Qc{CX:kL}{P:Program}{w:World}{K:PySem.W.Frag}{mg:Str->Option Value}{base:Heap}{ps cs:List Str}{name qual:Str}{params:Arguments}{body:List Stmt}{scope:Scope}{f c:Addr}{cl:List (Str×Addr)}{doc pm ct:Value}{A:Around}{outer:List Env}{s:Shared}{H:Hp}{E:XK}{us:List Value}{vs ws:List V}{h1:Heap}{t1:Nat}(S:gU ps cs scope)(e0:vm P w K mg base A outer s H)(C:tU base f c name qual params body scope cs ws cl doc pm ct)(hl:vs.length=ps.length)(r:Vals vs us)(m:h1.Ns s.heap.objs.size (λx=>(ps.zip us).reverse.lookup x))(h:∀b o,s.heap.get? b=some o->h1.get? b=some o):Inv (BZ CX P w K mg base (ps++cs) qual scope f c cl A outer s H E) [] (vs.map some++ws.map some) H {s with heap:=h1,toks:=t1}:=by
 have l:∀b:Addr,b∉(BZ CX P w K mg base (ps++cs) qual scope f c cl A outer s H E).ex:=λb z=>absurd (show b∈([]:List Addr)from z) (by simp);have cellOf:∀x a,cl.lookup x=some a->∃u,base.IsCell a (some u):=λx a e=>by obtain⟨i,hi⟩:=List.mem_iff_getElem?.mp (C.own x a e);obtain⟨v,D,u,_,e2,_,e4⟩:=C.cell i x hi;rw[e]at e2;cases e2;exact⟨u,e4⟩
 have up:∀{a:Addr}{v:Option Value},base.IsCell a v->h1.IsCell a v:=λ⟨o,j,hd⟩=>⟨o,h _ _ (e0.bs _ _ j).1,hd⟩;refine⟨⟨e0.mod,S.kind,rfl,rfl,bf _,C.inj,λy g=>?_,λy c z=>(by cases z),λ_=>e0.Oh.toP,Around.frames_deeper e0.frames, .inr ⟨rfl,rfl⟩,λb z=>absurd z (l b),e0.bs,e0.DB,λb _ _=>l b,λb z=>absurd z (l b),e0.iP,e0.Ob⟩,rfl,e0.bare,Un.kept h,⟨_,m,λi y v d h2 h3=>?_⟩,λy a e=>?_,e0.bK.fresh (bf _),λy a e=>?_,λp n=>absurd (show p∈([]:List (Addr×Obj))from n) (by simp),e0.bK.kept h,?_⟩
 ·have g:scope.names.lookup y=some .cell\/scope.names.lookup y=some .free:=g;rcases g with g|g;·exact absurd rfl (S.ni _ (PySem.mem_of_lookup g))
  ·obtain⟨i,hi⟩:=List.mem_iff_getElem?.mp (S.all y g);obtain⟨v,a,u,_,e2,_⟩:=C.cell i y hi;exact⟨a,e2⟩
 ·have d:(ps++cs)[i]?=some y:=d;by_cases hi:i<ps.length;·rw[DM hi]at d;rw[DM (by rw[cy];lia),ny]at h2;obtain⟨B,k,e⟩:=Option.map_eq_some_iff.mp h2;cases e;obtain⟨u,q,t⟩:=r.get k;have nd:=(List.nodup_append.mp S.nd).1;exact⟨u,t, .inl ⟨S.par y (vI d),Lf nd d q⟩⟩
  ·rw[List.getElem?_append_right (by lia)]at d;rw[List.getElem?_append_right (by rw[cy];lia),cy,hl,ny]at h2;obtain⟨B,k,e⟩:=Option.map_eq_some_iff.mp h2;cases e;obtain⟨F,a,u,e1,e2,e3,e4⟩:=C.cell _ y d;rw[k]at e1;cases e1;exact⟨u,e3, .inr ⟨.inr (S.free y (vI d)),a,e2,up e4⟩⟩
 ·obtain⟨u,e4⟩:=cellOf y a e;exact⟨_,up e4⟩
 ·obtain⟨u,o,j,_⟩:=cellOf y a e;exact(e0.bs _ _ j).2
 ·show(vs.map some++ws.map some).length=(ps++cs).length;rw[iQ,iQ,cy,cy,hl,C.len]
theorem QK{CX:kL}{P:Program}{w:World}{K:PySem.W.Frag}{mg:Str->Option Value}{base:Heap}{k:Nat}{ps cs:List Str}{name qual:Str}{params:Arguments}{body:List Stmt}{scope:Scope}{f c:Addr}{cl:List (Str×Addr)}{doc pm ct:Value}{A:Around}{outer:List Env}{s:Shared}{H:Hp}{Q:VK}{E:XK}{us:List Value}{vs ws:List V}(S:gU ps cs scope)(e0:vm P w K mg base A outer s H)(h:bY (k+1) A)(C:tU base f c name qual params body scope cs ws cl doc pm ct)(hc:H c=some (ic qual))(hl:vs.length=ps.length)(r:Vals vs us)(hb:BindsTo s (PySem.W.fnX name qual params body scope cl .none .none doc pm none (.ref c) ct) ⟨us,[]⟩ (ps.zip us))(i:bY k (A.deeper (ky qual scope s.heap.objs.size f c cl))->∃t,gR (BZ CX P w K mg base (ps++cs) qual scope f c cl A outer s H E) body t/\t {nx:=λ_ H'=>Q .aO H',rt:=Q} (vs.map some++ws.map some) H):codeAny (model P w) A (.call (.ref f) ⟨us,[]⟩) (CR CX A.handled outer P w H s Q E) s:=by have p:s.heap.NoLimit:=e0.mod.nolimit.keeps λb o e=>(e0.bs b o e).1;have j:s.heap.CodeRec (.ref c) qual:=(show bZ P w H s.heap c (ic qual)from e0.bK c _ hc);refine codeAny_call_def (fd:=PySem.W.fnX name qual params body scope cl .none .none doc pm none (.ref c) ct) (body:=body) (binds:=ps.zip us) h.depth (e0.bs _ _ C.fo).1 rfl p j rfl hb S.ni (λy n=>S.par y.1 (List.of_mem_zip n).1) (λh₁ m l=>?_) S.co S.gen S.kind;obtain⟨t,ht,hq⟩:=i (h.deeper _);have I:=Qc (CX:=CX) (E:=E) (t1:=s.toks+(ps.zip us).length) S e0 C hl r m l;refine f_ (ht [] _ _ H _ I hq) (λfl s' a=>?_) λe s' a=>a;have fin:∀{d:L2.St}{H':Hp}{v:V}{u:Value},Inv (BZ CX P w K mg base (ps++cs) qual scope f c cl A outer s H E) [] d H' s'->RelV v u->Q v H'->CE outer P w H s Q u s':=λ{d H' v u}J g q=>⟨v,H',J.os,J.bare,J.base,J.bK,g,q⟩;cases fl with|ret u=>obtain⟨v,d,H',J,g,q⟩:=a;exact fin J g q|next=>obtain⟨d,H',J,q⟩:=a;exact fin (v:=V.aO) (u:=Value.none) J rfl q|brk=>obtain⟨_,_,_,q⟩:=a;exact False.elim q|cont=>obtain⟨_,_,_,q⟩:=a;exact False.elim q
def ke(H:Hp)(T:Addr)(qual:Str)(a:Pos):Prop:=H T=some (.vD (.tab qual (rawInt a.line) (rawInt a.col)))
theorem ke.mono{H H':Hp}{T:Addr}{qual:Str}{a:Pos}(x:ke H T qual a)(s:ay H H'):ke H' T qual a:=s _ _ x
def FN(K:PySem.W.Frag)(a T:Addr):Prop:=PySem.W.codeHdIn K a T=true
theorem oB{K:PySem.W.Frag}{mg:Str->Option Value}{base h:Heap}{T:Addr}{ps:Array Value}(M:Mod K mg base)(k:∀b o,base.get? b=some o->h.get? b=some o)(f:h.get? T=some (PySem.W.tabObj ps)):mainGlobals≠T/\h.BuiltinsAt mg T:=by
 obtain⟨bm,ob,g,i,a,d,j,c⟩:=M.bm;obtain⟨o,es,ep,e,hd,_⟩:=M.glob;have e:=k _ _ e;have a:=k _ _ a;refine⟨λq=>?_,bm,ob,g,i,λq=>?_,λq=>?_,a,d,j,c⟩;·rw[q,f]at e;cases e;cases hd
 ·rw[q,e]at a;cases a;rw[hd]at c;cases c
 ·rw[q,f]at a;cases a;cases d
noncomputable abbrev z_(X:Cx)(f:Addr)(fo:Obj):Cx:={X with pn:=(f,fo)::X.pn}
section
variable{X:Cx}{pins:List (Addr×Obj)}{σ:L2.St}{H:Hp}{s:Shared}{f:Addr}{fo:Obj}
theorem K5{base:Heap}{pn b:List (Addr×Obj)}{A:Around}(h:HBp base pn A)(c:∀q∈pn,q∈b):HBp base b A:=by
 rcases h with h|⟨a,oe,vs,e1,e2,e3⟩;·exact .inl h
 ·exact .inr ⟨a,oe,vs,e1,e2.imp id (c _),e3⟩
theorem aau(ok:X.Ok):(z_ X f fo).Ok:=⟨ok.mod,ok.kind,ok.glob,ok.blt,ok.above,ok.inj,ok.has,ok.Tz,λh=>K5 (ok.hd h) λq hq=>cF _ hq,ok.frames,ok.Xw,ok.W3,ok.bs,ok.DB,ok.yw,ok.Bl,ok.iP,ok.Ob⟩
theorem aaL(I:Inv X pins σ H s)(e:s.heap.get? f=some fo)(b:H f=none)(c:f≠X.env.locals)(d:f∉X.fs)(g:∀v,fo.data≠ .cell v):Inv (z_ X f fo) pins σ H s:=by
 refine⟨aau I.ok,I.os,I.bare,I.base,I.loc,I.cell,I.free,I.fF,λp a=>?_,I.bK,I.len⟩;rcases List.mem_cons.mp (show p∈(f,fo)::(X.pn++pins)from a)with z|z;·rw[z];exact⟨e,b,c,d,g⟩
 ·exact I.pin p z
theorem vf(ok:X.Ok)(I:Inv (z_ X f fo) pins σ H s):Inv X pins σ H s:=⟨ok,I.os,I.bare,I.base,I.loc,I.cell,I.free,I.fF,λp a=>I.pin p (cF _ a),I.bK,I.len⟩
theorem Yc(ok:X.Ok){D:Ends}{fl:Flow}(h:SP (z_ X f fo) pins D fl s):SP X pins D fl s:=by cases fl with|next=>obtain⟨a,H',I,q⟩:=h;exact⟨a,H',vf ok I,q⟩|brk=>obtain⟨a,H',I,q⟩:=h;exact⟨a,H',vf ok I,q⟩|cont=>obtain⟨a,H',I,q⟩:=h;exact⟨a,H',vf ok I,q⟩|ret u=>obtain⟨v,a,H',I,r,q⟩:=h;exact⟨v,a,H',vf ok I,r,q⟩
end
noncomputable abbrev nV(name qual:Str)(params:Arguments)(body:List Stmt)(scope:Scope)(cl:List (Str×Addr))(doc pm:Value)(c:Addr)(ct:Value):Obj:={cls:= .type "function",data:= .func (PySem.W.fnX name qual params body scope cl .none .none doc pm none (.ref c) ct)}
noncomputable def ab4(i:Nat)(T:Addr)(qual:Str)(a:Pos)(t:Addr->Addr->Value->Value->Value->TS):TS:=λD σ H=>ke H T qual a/\∀(f c:Addr)(doc pm ct:Value)(H':Hp),ay H H'->H' c=some (ic qual)->t f c doc pm ct D (σ.set i (some (.ref f))) H'
theorem ZD{fs ex:List Addr}{H:Hp}{h h':Heap}{T c:Addr}{ps:Ql}{o:HO}(d:H T=some (.vD ps))(hc:H c=none)(f:h.objs.size<=c)(k:∀b u,b≠T->h.get? b=some u->h'.get? b=some u)(e:∃u,h'.get? T=some u):Un fs ex H (upd H c o) h h':=by
 have a:∀b,H b=none->b≠T:=λb n z=>by rw[z,d]at n;cases n
 refine⟨λb u q n _ _=>k b u (a b n) q,λb u q n _ _=>⟨u.slots,k b u (a b n) q⟩,λb u q n _=>?_,λb u q _=>?_,λb xs q=>?_,λb u xs q=>?_,λb g q=>?_⟩;·rw[aI (cW (gb (bA q) f))];exact n
 ·by_cases z:b=T;·rw[z];exact e
  ·exact⟨u,k b u z q⟩
 all_goals rw[aI (aD q hc)];exact q
theorem FF{X:Cx}{i:Nat}{r T:Addr}{name qual:Str}{params:Arguments}{body:List Stmt}{scope:Scope}{g:Pos}{rest:List Stmt}{cl:List (Str×Addr)}{t:Addr->Addr->Value->Value->Value->TS}(Q:FN X.K r T)(E:X.env.code= .ref r)(R:X.N.Nodup)(hi:X.N[i]?=some name)(M:X.env.scope.names.lookup name=some .local)(hq:qualnameIn X.env name name=qual)(C:closureFor scope X.env=pure cl)(hr:∀(f c:Addr)(doc pm ct:Value),gR (z_ X f (nV name qual params body scope cl doc pm c ct)) rest (t f c doc pm ct))(W:params.defaults=[]:=by rfl)(Z:params.kw_defaults=[]:=by rfl)(ha:annTrees params none X.env=[]:=by rfl):gR X (.FunctionDef name params body [] none [] scope none name g::rest) (ab4 i T qual g t):=by
 intro pins s σ H D I h;obtain⟨l,h⟩:=h;have N:∀(f c:Addr)(doc pm ct:Value)(H':Hp)(s1:Shared),Inv X pins σ H' s1->s1.heap.get? f=some (nV name qual params body scope cl doc pm c ct)->H' f=none->f≠X.env.locals->f∉X.fs->ay H H'->H' c=some (ic qual)->wpAny (model X.prog X.w) X.A (storeName X.env name (.ref f)) (λ_ s2=>wpAny (model X.prog X.w) X.A (execs rest X.env) (SP X pins D) X.xe s2) X.xe s1:=λf c doc pm ct H' s1 k e1 e2 e3 e4 sx hc=>by have O:=aaL (fo:=nV name qual params body scope cl doc pm c ct) k e1 e2 e3 e4 (λv z=>by cases z);refine jd (X:=z_ X f (nV name qual params body scope cl doc pm c ct)) (i:=i) (v:= .ref f) O R hi (.inl M) rfl (λs2 P=>?_) (.inr M);exact f_ (hr f c doc pm ct pins s2 _ H' D P (h f c doc pm ct H' sx hc)) (λfl s3 q=>Yc I.ok q) λ_ _ z=>z
 have KX:=I.gL;have F:s.heap.Ns mainGlobals X.mg:=I.mod.glob.keeps I.bk;obtain⟨m,⟨oL,esL,epL,hoL,_⟩,_⟩:=id I.loc;have J:X.env.locals<s.heap.objs.size:=bA hoL;have A:∀b:Addr,s.heap.objs.size<=b->b∉X.fs:=λb hb hm=>by obtain⟨_,o',ho,_⟩:=I.iP.mem hm;exact absurd (bA ho) (Nat.not_lt.mpr hb)
 have hd:PySem.W.CodeHd s.heap r T:=PySem.W.codeHd_of_K KX Q;refine wpAny_execs_cons (PySem.W.nestDef_K W Z ha ?_);rw[hq];rcases(show bZ X.prog X.w H s.heap T (.vD (.tab qual (rawInt g.line) (rawInt g.col)))from I.bK T _ l)with d|⟨c,d,hc⟩
 ·have d:s.heap.get? T=some (PySem.W.tabObj #[]):=d;obtain⟨L,x⟩:=oB I.mod I.bk d;refine PySem.W.makeFunction_K C I.ok.glob F E hd d trivial rfl L x λa j doc h' tk hx1 y K abu S=>?_;have p:H a=none:=I.bK.fresh y;have G:∀b u,b≠T->s.heap.get? b=some u->(h'.push (PySem.W.fnMade name qual params body scope cl doc ((X.mg "__name__").getD .none) a j)).get? b=some u:=λb u n e=>bC _ (hx1 b u n e);have B:(h'.push (PySem.W.fnMade name qual params body scope cl doc ((X.mg "__name__").getD .none) a j)).get? T=some (PySem.W.tabObj (#[]++#[rawInt g.line,rawInt g.col, .ref a])):=bC _ S;have nTc:T≠a:=aD l p;have V:=abu.push (PySem.W.fnMade name qual params body scope cl doc ((X.mg "__name__").getD .none) a j);have Qq:iK X.prog X.w (upd H a (ic qual)) (h'.push (PySem.W.fnMade name qual params body scope cl doc ((X.mg "__name__").getD .none) a j)):=λb u e=>by
   by_cases hb:b=a;·rw[hb,aq]at e;cases e;rw[hb];exact V
   ·rw[aI hb]at e;by_cases w:b=T;·rw[w,l]at e;cases e;rw[w];exact .inr ⟨a,B,aq⟩
    ·have nT2:∀c2,H c2=some (.own b)->c2≠T:=λc2 q z=>by rw[z,l]at q;cases q
     refine(I.bK b u e).vE (λc2 o U q=>G c2 o ?_ q) (λc2 q=>?_) λc2 xs q=>?_
     ·rcases U with rfl|q2;·exact w
      ·exact nT2 _ q2
     ·rw[aI (aD q p)];exact q
     ·rw[aI (aD q p)];exact q
  have k:=I.un (t':=tk) (ZD (o:=ic qual) l p y G ⟨_,B⟩) Qq;have hsz:s.heap.objs.size<=h'.objs.size:=cq y (Nat.le_of_lt K);refine N h'.objs.size a _ _ _ _ _ k (eI _ rfl) ?_ (Nat.ne_of_gt (gb J hsz)) (A _ hsz) (λb o e=>?_) aq;·rw[aI (Nat.ne_of_gt K)];exact I.bK.fresh hsz
  ·rw[aI (aD e p)];exact e
 ·have d:s.heap.get? T=some (PySem.W.tabObj #[rawInt g.line,rawInt g.col, .ref c]):=d;obtain⟨L,x⟩:=oB I.mod I.bk d;refine PySem.W.makeFunction_hit (cv:= .ref c) C I.ok.glob F E hd d ?_ ?_ x λj doc h' tk Y hsz=>?_;·simp[TriplesOk,rawInt]
  ·simp[codeAmong,rawInt]
  have k:=I.kept (h':=h'.push {cls:= .type "function",data:= .func (PySem.W.fnX name qual params body scope cl .none .none doc ((X.mg "__name__").getD .none) none (.ref c) j)}) (t':=tk) λb u e=>bC _ (Y b u e);exact N h'.objs.size c _ _ _ _ _ k (eI _ rfl) (I.bK.fresh hsz) (Nat.ne_of_gt (gb J hsz)) (A _ hsz) (λb o e=>e) hc
noncomputable def t_(P:Program)(w:World)(K:PySem.W.Frag)(mg:Str->Option Value)(CX:kL)(x:Str)(k:Nat)(ps:List Str)(sp:Heap->Sp):Prop:=∃f fd,(∀base,nA P w K mg base CX k f fd ps (sp base))/\mg x=some (.ref f)/\PySem.W.keepIn K (.ref f)=true/\Binds K fd ps []
section
variable{P:Program}{w:World}{K:PySem.W.Frag}{mg:Str->Option Value}
theorem Df.okB{x:Str}{st:Stmt}{N ps:List Str}{k:Nat}{sp:Heap->Sp}(D:Df K mg x st ps)(S:aC N ps (ai st))(len:∀base vs H Q E,sp base vs H Q E->vs.length=ps.length)(a:∀(base:Heap)(f:Addr)(bS:Value)(A:Around)(outer:List Env)(s:Shared)(H:Hp)(vs:List V)(Q:VK)(E:XK),bY k (A.deeper (envOfC x (ai st) s.heap.objs.size f bS))->sp base vs H Q E->∃t,gR (dw b_ P w K mg base N x (ai st) f bS A outer s H E).Gw (bu st) t/\t {nx:=λ_ H'=>Q .aO H',rt:=Q} (start N vs) H):t_ P w K mg b_ x (k+1) ps sp:=by obtain⟨f,fd,F,m,b⟩:=D;exact⟨f,fd,λbase=>F.ok S (len base) (a base f),m,F.kp,b⟩
theorem t_.never{x:Str}{st:Stmt}{ps:List Str}{sp:Heap->Sp}{k:Nat}{CX:kL}(D:Df K mg x st ps)(no:∀base vs H Q E,¬sp base vs H Q E):t_ P w K mg CX x k ps sp:=by obtain⟨f,fd,F,m,b⟩:=D;exact⟨f,fd,λbase=>⟨λvs H Q E h=>absurd h (no base vs H Q E),λA outer s H args us vs Q E _ _ _ _ h=>absurd h (no base vs H Q E)⟩,m,F.kp,b⟩
end
structure D4(X:Cx)(σ:L2.St)(b':Heap):Prop where
 old:∀b o,X.base.get? b=some o->b'.get? b=some o
 pin:∀q∈X.pn,b'.get? q.1=some q.2
 cell:∀(i:Nat)(x:Str)(v:V),X.N[i]?=some x->σ[i]?=some (some v)->X.env.kindOf x=some .cell->X.fn x=true->∃c u,X.env.cells.lookup x=some c/\RelV v u/\b'.IsCell c (some u)
theorem E2{X:Cx}{pins:List (Addr×Obj)}{σ:L2.St}{H:Hp}{s:Shared}(I:Inv X pins σ H s):D4 X σ (uk s.heap H (jq X.stack)):=by
 have g:∀b o,X.base.get? b=some o->b∉jq X.stack:=λb o e z=>by
  rcases List.mem_cons.mp (I.fP b z)with z|z;·have :=bA e;rw[z]at this;exact absurd this (Nat.not_lt.mpr (cq I.ok.DB I.ok.above))
  ·exact I.ok.Uk e z
 refine⟨λb o e=>iO (I.bs b o e).1 (I.bs b o e).2 (g b o e),λq hq=>?_,λi x v h1 h2 h3 h4=>?_⟩
 ·obtain⟨h,j,k,n,_⟩:=I.pin q (A1 _ hq);refine iO h j λz=>?_;rcases List.mem_cons.mp (I.fP _ z)with z|z;·exact k z
  ·exact n z
 ·obtain⟨m,hn,hl⟩:=I.loc;obtain⟨u,r,l⟩:=hl i x v h1 h2 (.inr (.inl h3));rcases l with⟨a,_⟩|⟨_,c,hc,o,d,hd⟩;·rw[h3]at a;cases a
  ·refine⟨c,u,hc,r,o,iO d (I.fF x c hc) λz=>?_,hd⟩;rcases List.mem_cons.mp (I.fP _ z)with z|z;·exact I.Tq x c hc z
   ·obtain⟨_,o',f,_⟩:=I.ok.iP.mem z;exact absurd (bA f) (Nat.not_lt.mpr (I.ok.Tz x c h4 hc))
noncomputable def VZ(X:Cx)(sp:Heap->Sp)(E:XK)(t:TA):TE:=λσ H Q=>t σ H λvs a=>∀b',D4 X σ b'->sp b' vs a Q E
theorem Lp{X:Cx}{CX:kL}{x:Str}{k:Nat}{ps:List Str}{sp:Heap->Sp}{E:XK}{e:Expr}{es:List Expr}{t:TA}{p d:Pos}(F:t_ X.prog X.w X.K X.mg CX x k ps sp)(o:bY k X.A)(l:Gl X x)(v:Passes CX X E)(ha:PA X (e::es) t)(i:(x==("__debug__":Str))=false:=by decide)(j:starEach (e::es) X.env=(false,eval e X.env)::starEach es X.env:=by rfl)(n:(backTo d (starEach es X.env)).any (·.1)=false:=by rfl)(hc:X.calm=true:=by rfl):PE X (.Call (.Name x p) (e::es) [] d) (VZ X sp E t):=by
 obtain⟨f,fd,F,m,kp,b⟩:=F;intro pins s σ H Q I h;refine pM (fb I l m ?_ i);refine PySem.W.callWith_K (h₀:=X.base) I.ok.mod.DD kp (bH (ha d pins s σ H _ I h) λus s1⟨vs,c,a,r,q⟩=>⟨a.gL,?_⟩) j n;have q:=q _ (E2 a);have hl:us.length=ps.length:=by rw[<-r.length];exact(F (uk s1.heap c (jq X.stack))).len _ _ _ _ q
 have g:=b s1 us a.gL (by rw[gc];exact hl);rw[gc]at g;refine wpAny_call (codeAny_mono ((F _).run X.A X.stack s1 c ⟨us,[]⟩ us vs Q E o (Ez a hc) g r q) λw s' hq=>?_);cases w with|error e=>exact v pins σ c s1 e s' a hq|ok fl=>cases fl with|ret u=>exact a.after hq|next=>exact False.elim hq|brk=>exact False.elim hq|cont=>exact False.elim hq
noncomputable def nB(P:Program)(w:World)(K:PySem.W.Frag)(mg:Str->Option Value)(base:Heap)(k:Nat)(f:Addr)(sp:Sp):Prop:=PySem.W.FnAt f base/\∀(a:Heap),(∀b o,base.get? b=some o->a.get? b=some o)->∀(A:Around)(outer:List Env)(s:Shared)(H:Hp)(us:List Value)(vs:List V)(Q:VK),bY k A->vm P w K mg a A outer s H->Vals vs us->sp vs H Q E0->codeAny (model P w) A (.call (.ref f) ⟨us,[]⟩) (CR b_ A.handled outer P w H s Q E0) s
theorem nB.up{P:Program}{w:World}{K:PySem.W.Frag}{mg:Str->Option Value}{base a:Heap}{k:Nat}{f:Addr}{sp:Sp}(C:nB P w K mg base k f sp)(c:∀b o,base.get? b=some o->a.get? b=some o):nB P w K mg a k f sp:=⟨let⟨oc,od,fd,sl,e⟩:=C.1;⟨oc,od,fd,sl,c _ _ e⟩,λd h=>C.2 d λb o e=>h b o (c b o e)⟩
noncomputable def Ur(i:Nat)(f:Addr)(sp:Sp)(t:TA):TE:=λσ H Q=>σ[i]?=some (some (.ref f))/\t σ H λvs a=>sp vs a Q E0
theorem K_{X:Cx}{x:Str}{k i:Nat}{f:Addr}{sp:Sp}{e:Expr}{es:List Expr}{t:TA}{p b:Pos}(C:nB X.prog X.w X.K X.mg X.base k f sp)(A:bY k X.A)(m:X.N[i]?=some x)(E:Zy X.env.scope x)(ha:PA X (e::es) t)(o:(x==("__debug__":Str))=false:=by decide)(n:(x==("__classdict__":Str))=false:=by decide)(w:starEach (e::es) X.env=(false,eval e X.env)::starEach es X.env:=by rfl)(y:(backTo b (starEach es X.env)).any (·.1)=false:=by rfl)(hc:X.calm=true:=by rfl):PE X (.Call (.Name x p) (e::es) [] b) (Ur i f sp t):=by intro pins s σ H Q I h;obtain⟨F,h⟩:=h;refine pM (f_ (Ni (X:=X) (i:=i) m E o n pins s σ H (λv H'=>v= .ref f/\H'=H) I ⟨.ref f,F,rfl,rfl⟩) (λu L D=>?_) λ_ _ z=>z);obtain⟨v,H0,c,K,rfl,rfl⟩:=D;cases(show u=Value.ref f from K);have d:∀{g:List (Addr×Obj)}{j:L2.St}{H':Hp}{s':Shared},Inv X g j H' s'->PySem.W.FnAt f s'.heap:=λ{g j H' s'}J=>let⟨oc,od,fd,sl,e⟩:=C.1;⟨oc,od,fd,sl,(J.bs _ _ e).1⟩;refine PySem.W.callWith_F (d c) (bH (ha b pins L σ H0 _ c h) λus s1⟨vs,l,a,r,q⟩=>⟨d a,?_⟩) w y;have B:=E2 a;refine wpAny_call (codeAny_mono (C.2 _ B.old X.A X.stack s1 l us vs Q A (Ez a hc) r q) λG s' hq=>?_);cases G with|error e=>exact hq.elim|ok fl=>cases fl with|ret u=>exact a.after hq|next=>exact False.elim hq|brk=>exact False.elim hq|cont=>exact False.elim hq
noncomputable abbrev N2:=List (Addr×Addr×Ql)
structure TabsOk(K:PySem.W.Frag)(h:Heap)(ts:N2):Prop where
 emp:∀q∈ts,h.get? q.2.1=some (PySem.W.tabObj #[])
 hd:∀q∈ts,PySem.W.codeHdIn K q.1 q.2.1=true
 out:∀q∈ts,K.lookup q.2.1=none
 tab:∀q∈ts,∃x l c,q.2.2= .tab x l c
noncomputable def Wt(K:PySem.W.Frag)(a:Addr)(o:Obj)(xs:List V)(ts:N2):Hp:=λb=>if b=a/\K.lookup a=none then some (.DE o (.lst xs))else((ts.map (·.2)).lookup b).map HO.vD
theorem Pz{K:PySem.W.Frag}{h:Heap}{c T:Addr}(X:K.In h)(e:PySem.W.codeHdIn K c T=true):isCodeTable h T:=by obtain⟨o,vs,f,a,fl,tg,b,n,d,e1,e2,e3,e4,_⟩:=PySem.W.codeHd_of_K X e;exact⟨c,o,vs,e1,e2,e3,e4⟩
theorem BQ{a:Type}:∀{l:List (Addr×a)}{x:Addr}{v:a},l.lookup x=some v->(x,v)∈l
 |[],_,_,h=>by simp at h
 |(y,w)::l,x,v,h=>by
  rw[jS]at h;by_cases e:(x==y)=true;·rw[e]at h;have :=beq_iff_eq.mp e;subst this;cases h;exact cj
  ·rw[show(x==y)=false by simpa using e]at h;exact cF _ (BQ h)
theorem MM{ts:N2}{b:Addr}{s:Ql}(e:(ts.map (·.2)).lookup b=some s):∃q∈ts,q.2.1=b/\q.2.2=s:=by have :=BQ e;obtain⟨q,hq,z⟩:=List.mem_map.mp this;exact⟨q,hq,by rw[z],by rw[z]⟩
theorem Iu{P:Program}{w:World}{K:PySem.W.Frag}{mg mb:Str->Option Value}{k:Nat}{fa a:Addr}{fd:FuncData}{x:Str}{sp:Sp}{f:Shared}{vs:List Value}{ns:List Int}{ts:N2}(KX:K.In f.heap)(I:f.heap.Ns mainGlobals mg)(hb:f.heap.Ns builtinsNs mb)(B:∀x:Str,x≠"__name__"->mb x=bootBuiltins x)(G:f.heap.NoLimit)(D:BmK mg f.heap)(E:f.gens=#[])(ha:f.heap.get? a=some {cls:= .type "list",data:= .seq vs.toArray})(hi:IntsAre vs ns)(hl:ns.length<=sizeLine)(J:bY k callerA)(T:TabsOk K f.heap ts)(F:∀base:Heap,nA P w K mg base b_ k fa fd [x] sp)(C:∀(s:Shared)(u:Value),BindsTo s fd ⟨[u],[]⟩ [(x,u)])(L:∀H:Hp,(∀q∈ts,(ts.map (·.2)).lookup q.2.1=some q.2.2->H q.2.1=some (.vD q.2.2))->bI K H a (ns.map V.int)->sp [.ref a] H (λv _=>v= .bl true) E0):codeAny (model P w) callerA (.call (.ref fa) ⟨[.ref a],[]⟩) (λr s'=>r= .ok (.ret (.bool true))/\OldK f.heap s'.heap/\s'.os=f.os/\AllBare s'.gens) f:=by
 have p:=xq hi;have M:=hi.length;let o:Obj:={cls:= .type "list",data:= .seq vs.toArray};let H:=Wt K a o (ns.map V.int) ts;have R:∀q∈ts,q.2.1≠a:=λq hq z=>by have :=T.emp q hq;rw[z,ha]at this;cases this
 have HT:∀q∈ts,(ts.map (·.2)).lookup q.2.1=some q.2.2->H q.2.1=some (.vD q.2.2):=λq hq e=>by show(if q.2.1=a/\K.lookup a=none then _ else _)=_;rw[if_neg λz=>R q hq z.1,e];rfl
 have only:∀b u,H b=some u->(b=a/\K.lookup a=none/\u= .DE o (.lst (ns.map V.int)))\/∃q∈ts,q.2.1=b/\u= .vD q.2.2:=λb u e=>by
  have e:(if b=a/\K.lookup a=none then some (.DE o (.lst (ns.map V.int)))else((ts.map (·.2)).lookup b).map HO.vD)=some u:=e;by_cases hb:b=a/\K.lookup a=none;·rw[if_pos hb]at e;exact .inl ⟨hb.1,hb.2,(Option.some.inj e).symm⟩
  ·rw[if_neg hb]at e;obtain⟨s,e1,e2⟩:=Option.map_eq_some_iff.mp e;obtain⟨q,hq,U,W⟩:=MM e1;exact .inr ⟨q,hq,U,by rw[W,e2]⟩
 have objs:∀b u,H b=some u->(b=a)\/f.heap.get? b=some (PySem.W.tabObj #[]):=λb u e=>by
  rcases only b u e with⟨z,_⟩|⟨q,hq,z,_⟩;·exact .inl z
  ·exact .inr (by rw[<-z];exact T.emp q hq)
 have free:∀{b:Addr}{ob:Obj},f.heap.get? b=some ob->ob.data≠ .seq vs.toArray->ob.data≠ .fields #[]->H b=none:=λ{b ob}e O Q=>by
  cases q:H b with
   |none=>rfl
   |some u=>
    rcases objs b u q with z|z;·rw[z,ha]at e;cases e;exact absurd rfl O
    ·rw[e]at z;cases z;exact absurd rfl Q
 have j:∀{b:Addr}{m:Str->Option Value},f.heap.Ns b m->(yH f.heap H).Ns b m:=λ{b m}⟨ob,es,ep,e,d,r⟩=>⟨ob,es,ep,mQ e (free e (by rw[d];simp) (by rw[d];simp)),d,r⟩;have t:K.In (yH f.heap H):=λb ob e=>mQ (KX b ob e) (by
  cases q:H b with
   |none=>rfl
   |some u=>
    rcases only b u q with⟨z,Y,_⟩|⟨g,hq,z,_⟩;·rw[z,Y]at e;cases e
    ·rw[<-z,T.out g hq]at e;cases e);have bK:iK P w H f.heap:=λb u e=>by
  rcases only b u e with⟨z,_,rfl⟩|⟨q,hq,z,rfl⟩;·rw[z];exact⟨ha,by rw[cy];exact hl,vs,_,p,ha⟩
  ·obtain⟨X,l,c,ex⟩:=T.tab q hq;rw[ex];exact .inl (by rw[<-z];exact T.emp q hq)
 have A:bI K H a (ns.map V.int):=by cases i:K.lookup a with|none=>refine .inl (.inr ⟨o,?_⟩);show(if a=a/\K.lookup a=none then _ else _)=_;rw[if_pos ⟨rfl,i⟩]|some ob=>have e:=KX a ob i;rw[ha]at e;cases e;exact .inr ⟨_,vs.toArray,_,i,rfl,rfl,rfl,by rw[cE,M];exact hl,by simpa using p⟩
 have y:Mod K mg (yH f.heap H):=⟨t,j I,⟨mb,j hb,B⟩,let⟨N,h1,h2⟩:=G;⟨N,j h1,h2⟩,let⟨bm,ob,e1,e2,e3,e4⟩:=D;⟨bm,ob,e1,e2,mQ e3 (free e3 (by rw[e4.2.2];simp) (by rw[e4.2.2];simp)),e4⟩⟩;have e0:vm P w K mg (yH f.heap H) callerA [] f H:=⟨rfl,y,λb ob e=>GV e,Nat.le_of_eq (wJ _ _),trivial,λb hb=>absurd (show b∈([]:List Addr)from hb) (by simp),bK, .of_eq E, .inl rfl⟩;refine codeAny_mono ((F _).run callerA [] f H ⟨[.ref a],[]⟩ [.ref a] [.ref a] _ _ J e0 (C f (.ref a)) (.cons rfl .nil) (L H HT A)) λr s' h=>?_;cases r with
  |error e=>exact(show False from h).elim
  |ok fl=>
   cases fl with
    |next=>exact False.elim h
    |brk=>exact False.elim h
    |cont=>exact False.elim h
    |ret u=>
     obtain⟨v,H',os,bare,un,n,S,q⟩:=h;have g:v= .bl true:=q;subst g;obtain rfl:u=Value.bool true:=S;refine⟨rfl,⟨λb ob e=>?_,λb ob e=>un.there b ob e (by simp)⟩,os,bare⟩;cases q:H b with
      |none=>exact .inl (un.keep b ob e q (by intro z;exact absurd (show b∈([]:List Addr)from z) (by simp)) (by simp))
      |some u=>
       rcases only b u q with⟨z,_,rfl⟩|⟨g,hq,z,rfl⟩;·obtain⟨e2,_⟩:=n b _ (un.uN b o _ q);rw[z,ha]at e;cases e;exact .inl e2
       ·obtain⟨X,l,c,ex⟩:=T.tab g hq;have em:=T.emp g hq;rw[z,e]at em;cases em;rw[ex]at q;rcases n b _ (un.vq b _ q)with e2|⟨Z,e2,_⟩;·exact .inl e2
        ·exact .inr (.inl ⟨by rw[<-z];exact Pz KX (T.hd g hq),rfl,#[],_,rfl,by rw[Array.empty_append];exact e2⟩)
theorem KY{l:PySem.W.OpenLaw}{n k:Nat}{q:Program}{loose:List Str}{XP:(Str->Option Value)->Heap->Prop}{YP:World->Heap->Prop}{d:DefRec}{K:Params->PySem.W.Frag}{sp:World->Sp}{x:Str}{ts:N2}(hn:l.most=some n)(p:n<=sizeLine)(j:d.params.defaults=[])(t:bY k callerA)(i:∀(w:World)(h:Heap),YP w h->(K w.params).In h)(g:∀(w:World)(h:Heap),YP w h->TabsOk (K w.params) h ts)(F:∀(w:World)(mg:Str->Option Value)(fa:Addr)(h:Heap),(K w.params).In h->h.Ns mainGlobals mg->mg d.name=some (.ref fa)->∃fd:FuncData,(∀(s:Shared)(u:Value),BindsTo s fd ⟨[u],[]⟩ [(x,u)])/\∀base:Heap,nA l.prog w (K w.params) mg base b_ k fa fd [x] (sp w))(y:∀(w:World)(H:Hp)(a:Addr)(ns:List Int),ns.length<=n->(∀q∈ts,(ts.map (·.2)).lookup q.2.1=some q.2.2->H q.2.1=some (.vD q.2.2))->bI (K w.params) H a (ns.map V.int)->sp w [.ref a] H (λv _=>v= .bl true) E0):PySem.W.WalkO q loose XP YP l.row.toRowW d [] (λf vs=>PySem.call f vs):=by refine Att.Dw hn j λw bV B mg mb fa o pm cd doc a vs ns G Y A hd z hmg r hints hlen m=>?_;have KX:=i w _ Y;obtain⟨fd,hb,b⟩:=F w mg fa _ KX G.T.g hmg;exact Iu KX G.T.g G.T.b G.T.builtins G.T.nolimit G.T.bmain m r hints (cq hlen p) t (g w _ Y) b hb λH c e=>y w H a ns hlen c e
def Nst(K:PySem.W.Frag)(f T:Addr):Prop:=∃oc od fd A4 a,K.lookup f=some ⟨oc,od, .func fd,A4⟩/\fd.code= .ref a/\FN K a T
def UE(K:PySem.W.Frag)(mg:Str->Option Value)(x:Str)(st:Stmt)(ps:List Str)(T:Addr):Prop:=∃f fd,Om K x x st f fd/\mg x=some (.ref f)/\Binds K fd ps []/\Nst K f T
theorem UE.ok{P:Program}{w:World}{K:PySem.W.Frag}{mg:Str->Option Value}{x:Str}{st:Stmt}{N ps:List Str}{k:Nat}{sp:Sp}{T:Addr}(D:UE K mg x st ps T)(S:aC N ps (ai st))(len:∀vs H Q E,sp vs H Q E->vs.length=ps.length)(e:∀(base:Heap)(f a:Addr)(A:Around)(outer:List Env)(s:Shared)(H:Hp)(vs:List V)(Q:VK)(E:XK),FN K a T->bY k (A.deeper (envOfC x (ai st) s.heap.objs.size f (.ref a)))->sp vs H Q E->∃t,gR (dw b_ P w K mg base N x (ai st) f (.ref a) A outer s H E).Gw (bu st) t/\t {nx:=λ_ H'=>Q .aO H',rt:=Q} (start N vs) H):bO P w K mg b_ x (k+1) ps sp:=by obtain⟨f,fd,F,m,b,n⟩:=D;refine⟨f,fd,λbase=>?_,m,F.kp,b⟩;obtain⟨oc,od,kV,doc,pm,an,bS,ct,A4,rfl,c,g⟩:=F.ex;obtain⟨p,r,o,u,a,d,hc,l⟩:=n;rw[c]at d;cases d;have hc:bS= .ref a:=hc;subst hc;exact B0 c g S len λA outer s H vs Q E i j=>let⟨t,h,q⟩:=e base f a A outer s H vs Q E l i j;⟨t,h.Gw,q⟩
theorem L5{K:PySem.W.Frag}{mg:Str->Option Value}{h:Heap}{x:Str}{st:Stmt}{ps:List Str}{c T:Addr}(D:Df K mg x st ps)(X:K.In h)(G:h.Ns mainGlobals mg)(ht:PySem.W.tabIn K x=some (c,T))(hd:PySem.W.codeHdIn K c T=true):UE K mg x st ps T:=by obtain⟨f,fd,F,m,b⟩:=D;obtain⟨oc,od,kV,doc,pm,an,bS,ct,A4,rfl,a,d⟩:=id F.ex;exact⟨f,_,F,m,b,oc,od,_,A4,c,a,PySem.W.law_code X G ht m (X _ _ a) rfl,hd⟩
noncomputable def Kl(s:Stmt):Pos:=match s with| .FunctionDef _ _ _ _ _ _ _ _ _ p=>p|_=>⟨0,0,0,0⟩
noncomputable def Nm(ps cs:List Str)(names:List (Str×NameKind)):Bool:=names.all (λy=>y.2 != .cell&&(y.2 != .free||cs.contains y.1))&&ps.all (λx=>names.lookup x==some .local)&&cs.all (λx=>names.lookup x==some .free)&&decide (ps++cs).Nodup
theorem oU{ps cs:List Str}{scope:Scope}(h1:scope.kind= .function)(h2:scope.isCoroutine=false)(h3:scope.isGenerator=false)(h:Nm ps cs scope.names=true):gU ps cs scope:=by
 unfold Nm at h;simp only[bD,List.all_eq_true,decide_eq_true_eq]at h;obtain⟨⟨⟨a,b⟩,c⟩,d⟩:=h;refine⟨h1,h2,h3,λy g=>?_,λx f=>?_,d,λx f=>?_,λx e=>?_⟩;·simpa using(a y g).1
 ·simpa using b x f
 ·simpa using c x f
 ·have :=(a _ (PySem.mem_of_lookup e)).2;simpa using this
theorem Kb{cl:List (Str×Addr)}(nd:(cl.map (·.2)).Nodup):∀x y a,cl.lookup x=some a->cl.lookup y=some a->x=y:=λx y a h1 h2=>by have c:=PySem.mem_of_lookup h1;have d:=PySem.mem_of_lookup h2;obtain⟨i,hi,e1⟩:=List.mem_iff_getElem.mp c;obtain⟨j,b,e2⟩:=List.mem_iff_getElem.mp d;have :i=j:=(List.getElem_inj (i:=i) (j:=j) (h₀:=by simpa using hi) (h₁:=by simpa using b) nd).mp (by rw[List.getElem_map,List.getElem_map,e1,e2]);subst this;rw[e1]at e2;exact(Prod.mk.inj e2).1
theorem Lo{X:Cx}{σ:L2.St}{b':Heap}{f c:Addr}{name qual:Str}{params:Arguments}{body:List Stmt}{scope:Scope}{cl:List (Str×Addr)}{doc pm ct:Value}{cs:List Str}{ws:List V}(B:D4 (z_ X f (nV name qual params body scope cl doc pm c ct)) σ b')(h:cl.map (·.1)=cs)(k:(cl.map (·.2)).Nodup)(hl:ws.length=cs.length)(g:∀(i:Nat)(x:Str),cs[i]?=some x->∃(j:Nat)(v:V),ws[i]?=some v/\X.N[j]?=some x/\σ[j]?=some (some v)/\X.env.kindOf x=some .cell/\X.fn x=true/\cl.lookup x=X.env.cells.lookup x):tU b' f c name qual params body scope cs ws cl doc pm ct:=by
 refine⟨B.pin (f,nV name qual params body scope cl doc pm c ct) cj,Kb k,λx a e=>?_,λi x e=>?_,hl⟩;·rw[<-h];exact List.mem_map.mpr ⟨_,PySem.mem_of_lookup e,rfl⟩
 ·obtain⟨j,v,e1,e2,e3,e4,b,d⟩:=g i x e;obtain⟨a,u,l,m,n⟩:=B.cell j x v e2 e3 e4 b;exact⟨v,a,u,e1,by rw[d];exact l,m,n⟩
theorem Hk{P:Program}{w:World}{K:PySem.W.Frag}{mg:Str->Option Value}{base:Heap}{k:Nat}{ps cs:List Str}{name qual:Str}{params:Arguments}{body:List Stmt}{scope:Scope}{f c:Addr}{cl:List (Str×Addr)}{doc pm ct:Value}{ws:List V}{sp:Sp}(S:gU ps cs scope)(C:tU base f c name qual params body scope cs ws cl doc pm ct)(hb:∀us:List Value,us.length=ps.length->bindArgs (PySem.W.fnX name qual params body scope cl .none .none doc pm none (.ref c) ct) ⟨us,[]⟩=pure (ps.zip us))(g:∀vs H Q,sp vs H Q E0->vs.length=ps.length/\H c=some (ic qual))(b:∀(a:Heap)(A:Around)(outer:List Env)(s:Shared)(H:Hp)(vs:List V)(Q:VK),bY k (A.deeper (ky qual scope s.heap.objs.size f c cl))->sp vs H Q E0->∃t,gR (BZ b_ P w K mg a (ps++cs) qual scope f c cl A outer s H E0) body t/\t {nx:=λ_ H'=>Q .aO H',rt:=Q} (vs.map some++ws.map some) H):nB P w K mg base (k+1) f sp:=by refine⟨⟨_,_,_,_,C.fo⟩,λa up A outer s H us vs Q d e0 r h=>?_⟩;obtain⟨hl,hc⟩:=g vs H Q h;exact QK S e0 d (C.keeps up) hc hl r (.of_eq (hb us (by rw[<-r.length];exact hl))) λe=>b a A outer s H vs Q e h
noncomputable def UX(base:Heap)(sp:Heap->Sp)(E:XK)(t:TA):TE:=λσ H Q=>t σ H λvs a=>∀b',(∀b o,base.get? b=some o->b'.get? b=some o)->sp b' vs a Q E
theorem Uq{X:Cx}{base:Heap}{CX:kL}{x:Str}{k:Nat}{ps:List Str}{sp:Heap->Sp}{E:XK}{e:Expr}{es:List Expr}{t:TA}{p d:Pos}(F:t_ X.prog X.w X.K X.mg CX x k ps sp)(v:bY k X.A)(n:Gl X x)(w:Passes CX X E)(ha:PA X (e::es) t)(j:(x==("__debug__":Str))=false:=by decide)(l:starEach (e::es) X.env=(false,eval e X.env)::starEach es X.env:=by rfl)(o:(backTo d (starEach es X.env)).any (·.1)=false:=by rfl)(hc:X.calm=true:=by rfl)(i:X.base=base:=by rfl):PE X (.Call (.Name x p) (e::es) [] d) (UX base sp E t):=by
 subst i;obtain⟨f,fd,F,m,kp,b⟩:=F;intro pins s σ H Q I h;refine pM (fb I n m ?_ j);refine PySem.W.callWith_K (h₀:=X.base) I.ok.mod.DD kp (bH (ha d pins s σ H _ I h) λus s1⟨vs,c,a,r,q⟩=>⟨a.gL,?_⟩) l o;have q:=q _ (E2 a).old;have hl:us.length=ps.length:=by rw[<-r.length];exact(F (uk s1.heap c (jq X.stack))).len _ _ _ _ q
 have g:=b s1 us a.gL (by rw[gc];exact hl);rw[gc]at g;refine wpAny_call (codeAny_mono ((F _).run X.A X.stack s1 c ⟨us,[]⟩ us vs Q E v (Ez a hc) g r q) λy s' hq=>?_);cases y with|error e=>exact w pins σ c s1 e s' a hq|ok fl=>cases fl with|ret u=>exact a.after hq|next=>exact False.elim hq|brk=>exact False.elim hq|cont=>exact False.elim hq
theorem UE.xV{P:Program}{w:World}{K:PySem.W.Frag}{mg:Str->Option Value}{x:Str}{st:Stmt}{N ps:List Str}{k:Nat}{sp:Sp}{T:Addr}(D:UE K mg x st ps T)(S:aC N ps (ai st))(len:∀vs H Q E,sp vs H Q E->vs.length=ps.length)(e:∀(base:Heap)(f a:Addr)(A:Around)(outer:List Env)(s:Shared)(H:Hp)(vs:List V)(Q:VK)(E:XK),FN K a T->bY k (A.deeper (envOfC x (ai st) s.heap.objs.size f (.ref a)))->sp vs H Q E->∃t,gR (dw (c7 P w) P w K mg base N x (ai st) f (.ref a) A outer s H E) (bu st) t/\t {nx:=λ_ H'=>Q .aO H',rt:=Q} (start N vs) H):bO P w K mg (c7 P w) x (k+1) ps sp:=by obtain⟨f,fd,F,m,b,n⟩:=D;refine⟨f,fd,λbase=>?_,m,F.kp,b⟩;obtain⟨oc,od,kV,doc,pm,an,bS,ct,A4,rfl,c,g⟩:=F.ex;obtain⟨o,p,l,q,a,d,hc,j⟩:=n;rw[c]at d;cases d;have hc:bS= .ref a:=hc;subst hc;exact B0 c g S len λA outer s H vs Q E h i=>e base f a A outer s H vs Q E j h i
theorem Vw{X:Cx}{f:Addr}{fo:Obj}(b:∀vs,fo.data≠ .fields vs)(ok:(z_ X f fo).Ok):X.Ok:=⟨ok.mod,ok.kind,ok.glob,ok.blt,ok.above,ok.inj,ok.has,ok.Tz,λh=>by
 rcases ok.hd h with h|⟨a,oe,vs,e1,e2,e3⟩;·exact .inl h
 ·refine .inr ⟨a,oe,vs,e1,?_,e3⟩;rcases e2 with e2|e2;·exact .inl e2
  ·rcases List.mem_cons.mp e2 with z|z;·cases z;exact absurd e3.1 (b vs)
   ·exact .inr z,ok.frames,ok.Xw,ok.W3,ok.bs,ok.DB,ok.yw,ok.Bl,ok.iP,ok.Ob⟩
theorem Jc{CX:kL}{X:Cx}{f:Addr}{fo:Obj}{E:XK}(h:Passes CX X E)(a:∀vs,fo.data≠ .fields vs):Passes CX (z_ X f fo) E:=λpins σ H s e s' I hc=>h pins σ H s e s' (vf (Vw a I.ok) I) hc
end L3
end
section
namespace K62
open PySem L2 L3 KM PyProof.Rows
seal L2.PE L2.PS L2.gR L2.PT L2.PW L2.PA L2.PG L2.zI L2.PI L2.PC L2.PO L2.E_ L2.PK L3.zD L3.PH L3.PB
variable{P:Program}{w:World}{K:PySem.W.Frag}{mg:Str->Option Value}{base:Heap}{t:wQ}
def Nd(g:Int->Int->D)(Pre:Hp->Prop):Sp:=λvs H Q _=>∃n b:Int,vs=[.int n, .int b]/\0<=n/\0<=b/\Pre H/\∀(v:V)(H':Hp),ay H H'->Rep H' (g n b) v->Q v H'
structure Chg(P:Program)(w:World)(K:PySem.W.Frag)(mg:Str->Option Value)(base:Heap)(kc:Nat)(f:Addr)(g:Int->Int->D)(Pre:Hp->Prop):Prop where
 cal:nB P w K mg base kc f (Nd g Pre)
 st:∀H H',Pre H->ay H H'->Pre H'
noncomputable def pN(x:Str)(i:Nat):Int:=if decide (V.int i=jZ x)=true then 1 else 0
theorem kD(x:Str)(i:Nat):0<=pN x i:=by unfold pN;split<;>decide
theorem QU(x:Str)(i:Nat):mw x i= .int (pN x i):=by unfold mw pN;split<;>rfl
noncomputable def kX(g:Int->Int->D):Nat->Int->D->D|n+1,b, .tup (.str x::ps)=>if x="var"then(match ps with|[.int i]=>if b<=i then g (i-b) b else .tup (.str x::ps)|_=> .tup (.str x::ps))else bT x ps ((List.range (az x ps).length).map λi=>kX g n (b+pN x i) (((az x ps)[i]?).getD .aO))|_,_,d=>d
def Mp(P:Program)(w:World)(K:PySem.W.Frag)(mg:Str->Option Value)(kc n:Nat)(base:Heap):Sp:=λvs H Q _=>∃(d:D)(v:V)(b:Int)(f:Addr)(g:Int->Int->D)(Pre:Hp->Prop),vs=[v, .int b, .ref f]/\Rep H d v/\Wf d/\depth d<n/\0<=b/\Pre H/\Chg P w K mg base kc f g Pre/\∀(u:V)(H':Hp),ay H H'->Rep H' (kX g n b d) u->Q u H'
theorem mq:aC ["thing","binders","change","kids"] ["thing","binders","change"] (ai dI):=⟨rfl,rfl,rfl,by decide+kernel,rfl,by decide+kernel,by decide+kernel⟩
theorem AQ{kc n:Nat}(D:Df K mg "with_free" dI ["thing","binders","change"])(M:Mg mg t)(ba:bO P w K mg b_ "kids_of" (1) ["thing"] gE)(ik:bO P w K mg b_ "binds_of" (1) ["thing"] yX)(c_:bO P w K mg b_ "rebuilt" (1) ["thing","kids"] gN)(eT:t_ P w K mg b_ "with_free" (n+kc+3) ["thing","binders","change"] (Mp P w K mg kc n)):t_ P w K mg b_ "with_free" (n+kc+4) ["thing","binders","change"] (Mp P w K mg kc (n+1)):=by
 refine D.okB mq (λbase vs H Q E h=>?_) (λbase f bS A outer s H vs Q E o h=>?_);·obtain⟨d,v,b,U,g,Pre,rfl,_⟩:=h;rfl
 obtain⟨d,v,b,U,g,Pre,rfl,r,wfd,hd,hb,Z,C,q⟩:=h;have W:=C.cal;obtain⟨x,ps,k,rfl,wf,Cn⟩:=tX wfd;have hk4:=MC wf;obtain⟨a,Rk,rfl,ha,v0,Rk,rfl,⟨rfl,hx⟩,rp⟩:=id r;have ea:Du (V.str x::Rk) 0=some (.str x):=aH (j:=0) rfl;refine⟨_,(aj (bj (aG cx (aZ aW (pv 0) au (λ_ _=>rfl)) aN (aJ _)) (ak (aB (f7 (aG MD (aZ aW (pv 0) au (λ_ _=>rfl)) (pv 1) (aJ _)) (K_ (i:=2) W o.m rfl (by first|exact Or.inl rfl|exact Or.inr (Or.inl rfl)|exact Or.inr (Or.inr rfl)) (aa (cR DW (aZ aW (pv 0) au (λ_ _=>rfl)) (pv 1)) (aa (pv 1) ah))) (pv 0)))) aK) (aj (Pn (ix:=3) (N':=["kid","bound","change","binders"]) (own:=2) (fr:=[2,1]) mq.nd rfl rfl rfl (iN (N:=["thing","binders","change","kids"]) (sc:=ai dI) rfl rfl rfl (by decide+kernel)) (Rm rfl M.aaJ (aa (aV ba o.m rfl bh (aa (pv 0) ah)) (aa (aV ik o.m rfl bh (aa (pv 0) ah)) ah))) (Ko (n:=2) (by decide) (by decide)) (λ_ _ _=>(t9 (n:=2) rfl (cO (bx (i:=0) (show List.Nodup (["kid","bound","change","binders"]:List Str)by decide+kernel) rfl (Or.inl rfl)) (cO (bx (i:=1) (show List.Nodup (["kid","bound","change","binders"]:List Str)by decide+kernel) rfl (Or.inl rfl)) ma)))) (λ_ _ _=>lM) (λ_ _ _=>(Uq (base:=base) eT o.m rfl bh (aa (pv 0) (aa (cR gA (pv 3) (pv 1)) (aa (pv 2) ah)))))) (ak (aB (aV c_ o.m rfl bh (aa (pv 0) (aa (pv 3) ah))))))),?_⟩;try dsimp only[iG,cQ]
 refine xD ?_;intro _ _ _;refine⟨_,rfl,a,_,_,_,rfl,rfl,bQ.of ha,ea,rfl,_,rfl,?_⟩;refine a_ (λc=>?_) (λc=>?_)
 ·have c:V.str x=V.str "var":=of_decide_eq_true c;cases c;obtain⟨sh,e1,_,e3,_,I,_⟩:=bF wf;rw[fA]at e1;cases e1;rw[CM]at e3 I;obtain⟨m,rfl⟩:∃m,ps=[m]:=by cases ps with|nil=>simp at I|cons m rest=>cases rest with|nil=>exact⟨m,rfl⟩|cons _ _=>simp at I
  rw[aP,bD]at e3;have hn:jP m=true:=by simpa[eE]using e3.1
  obtain⟨i,rfl⟩:∃i,m= .int i:=by cases m<;>first|exact⟨_,rfl⟩|simp[jP]at hn
  obtain⟨u1,us1,rfl,F,_⟩:=rp;cases(show u1=V.int i from F);have h0:0<=i:=by simpa[jP]using hn
  have e:kX g (n+1) b (.tup [.str "var", .int i])=if b<=i then g (i-b) b else .tup [.str "var", .int i]:=by rw[kX,if_pos rfl]
  rw[e]at q;refine⟨_,rfl,a,_,_, .int i,rfl,rfl,bQ.of ha,aH (j:=1) rfl,_,rfl,_,_,rfl,rfl,_,rfl,?_⟩;refine a_ (λc=>?_) (λc=>?_);·have c:b<=i:=of_decide_eq_true c;rw[if_pos c]at q;exact⟨rfl,_,rfl,a,_,_, .int i,rfl,rfl,bQ.of ha,aH (j:=1) rfl,_,rfl,_,_,rfl,rfl,_,rfl,i-b,b,rfl,by omega,hb,Z,q⟩
  ·have c:¬b<=i:=of_decide_eq_false (Bool.eq_false_iff.mpr c);rw[if_neg c]at q;exact⟨_,rfl,q _ H (ay.refl H) r⟩
 have hv:x≠"var":=λz=>c (by rw[z];exact decide_eq_true rfl);have e:kX g (n+1) b (.tup (.str x::ps))=bT x ps ((List.range (az x ps).length).map λi=>kX g n (b+pN x i) (((az x ps)[i]?).getD .aO)):=by
  conv=>lhs;unfold kX
  exact if_neg hv
 rw[e]at q;refine⟨_,rfl,x,ps,_,rfl,r,Cn,λp1 us H1 _ s1 h1 F=>⟨_,rfl,x,ps,_,k,rfl,r.mono s1,wf,λp2 H2 s2 h2=>⟨p1,p2,us,_,rfl,bI.of (s2 _ _ h1),bI.of h2,λp3 Ol=>?_⟩⟩⟩;have l1:=F.length;have O:=s1.trans s2;have J:=s2 _ _ h1;refine IA (az x ps).length (λi=>kX g n (b+pN x i) (((az x ps)[i]?).getD .aO)) Ol (cq hk4 (by decide)) (λi H3 hi l=>?_) λacc H3 l h3 r3=>⟨⟨us,_,bI.of (l _ _ J),bI.of (l _ _ h2),by omega⟩,?_⟩
 ·obtain⟨G,L⟩:∃G,(az x ps)[i]?=some G:=⟨_,dR hi⟩;obtain⟨S,Oi,Q4⟩:=F.get L;have Y:(DN x (az x ps).length)[i]?=some (.int (pN x i)):=by unfold DN;rw[ny,List.getElem?_range hi];show some (mw x i)=_;rw[QU]
  refine⟨⟨us,_,S,_,bI.of (l _ _ J),bI.of (l _ _ h2),Oi,Y⟩,?_⟩;rintro y T⟨p,x',y',rfl,hpn,rfl,hy⟩R X;obtain⟨y1,y2⟩:=hy us _ (bI.of (l _ _ J)) (bI.of (l _ _ h2));rw[Oi]at y1;rw[Y]at y2;cases y1;cases y2;have B:=av hpn (.tup [S, .int (pN x i)]);obtain⟨w1,w2⟩:=i_ wf L;rw[L]at X;have sa:=O.trans (l.trans B);refine⟨p,_,rfl,bQ.of aq,rfl,_,_,rfl,_,_,rfl,rfl,?_⟩;exact⟨_,rfl,_,rfl,_,rfl,_,_,rfl,rfl,_,rfl,λb' up=>⟨G,S,b+pN x i,U,g,Pre,rfl,Q4.mono (s2.trans (l.trans B)),w1,by omega,by have :=kD x i;omega,C.st _ _ Z sa,⟨W.up up,C.st⟩,λu H5 s5 r5=>X u H5 (B.trans s5) r5⟩⟩
 ·refine⟨_,rfl,_,rfl,x,ps,_,_,p3,acc,rfl,r.mono (O.trans l),h3,r3,by rw[cy,List.length_range];omega,λu T B r4=>q u T (O.trans (l.trans B)) r4⟩
theorem jg{kc:Nat}(D:Df K mg "with_free" dI ["thing","binders","change"])(M:Mg mg t)(c:bO P w K mg b_ "kids_of" (1) ["thing"] gE)(a:bO P w K mg b_ "binds_of" (1) ["thing"] yX)(e:bO P w K mg b_ "rebuilt" (1) ["thing","kids"] gN):∀n:Nat,t_ P w K mg b_ "with_free" (n+kc+3) ["thing","binders","change"] (Mp P w K mg kc n)|0=>t_.never D λbase vs H Q E⟨d,v,b,f,g,Pre,_,_,_,h,_⟩=>absurd h (Nat.not_lt_zero _)|n+1=>by have :=AQ (kc:=kc) D M c a e (jg D M c a e n);rwa[show n+1+kc+3=n+kc+4 by omega]
noncomputable abbrev iD:Stmt:=(bu js).getD 0 (.Pass ⟨0,0,0,0⟩)
theorem nG:gU ["number","binders"] ["low","by"] (ai iD):=oU rfl rfl rfl (by decide+kernel)
noncomputable def uX(a low:Int)(n b:Int):D:= .tup [.str "var", .int (n+b+(if low<=n then a else 0))]
noncomputable def BC:Str:="raised.<locals>.change"
noncomputable def Bn:Pos:=Kl iD
def BK(T:Addr)(n:Nat):Sp:=λvs H Q _=>∃(d:D)(v:V)(a low:Int),vs=[v, .int a, .int low]/\Rep H d v/\Wf d/\depth d<n/\ke H T BC Bn/\∀(u:V)(H':Hp),ay H H'->Rep H' (kX (uX a low) n 0 d) u->Q u H'
theorem xl:aC ["thing","by","low","change"] ["thing","by","low"] (ai js):=⟨rfl,rfl,rfl,by decide+kernel,rfl,by decide+kernel,by decide+kernel⟩
theorem Lj{n:Nat}{T:Addr}(D:UE K mg "raised" js ["thing","by","low"] T)(M:Mg mg t)(o:t_ P w K mg b_ "with_free" (n+1+3) ["thing","binders","change"] (Mp P w K mg 1 n)):bO P w K mg b_ "raised" (n+5) ["thing","by","low"] (BK T n):=by
 refine D.ok xl (λvs H Q E h=>?_) (λbase f O A outer s H vs Q E I m h=>?_);·obtain⟨d,v,a,low,rfl,_⟩:=h;rfl
 obtain⟨d,v,a,low,rfl,r,L,hd,F,q⟩:=h;refine⟨_,(FF (i:=3) (qual:=BC) I rfl xl.nd rfl rfl rfl rfl (λj c doc pm ct=>(ak (aB (Lp o m.m rfl bh (aa (pv 0) (aa au (aa (pv 3) ah)))))))),?_⟩;try dsimp only[iG,R]
 refine⟨F,λj c doc pm ct y s1 hc=>?_⟩;refine⟨v,rfl,_,rfl,λb' B=>?_⟩;refine⟨d,v,0,j,uX a low,λH'=>H' c=some (ic BC),rfl,r.mono s1,L,hd,Int.le_refl 0,hc,⟨?_,λy g h s=>s _ _ h⟩,λu g s2 J=>q u g (s1.trans s2) J⟩;have C:=Lo (cs:=["low","by"]) (ws:=[.int low, .int a]) B rfl (by simp) rfl λi x e=>by match i,e with|0,e=>cases e;exact⟨2,_,rfl,rfl,rfl,rfl,rfl,rfl⟩|1,e=>cases e;exact⟨1,_,rfl,rfl,rfl,rfl,rfl,rfl⟩|i+2,e=>simp at e
 refine Hk (k:=0) nG C (λus hl=>match us,hl with|[_,_],_=>rfl) (λvs H Q⟨n,b,e,_,_,h,_⟩=>⟨by rw[e];rfl,h⟩) λN A outer s H vs Q m h=>?_;obtain⟨n,b,rfl,S,hb,_,q⟩:=h;refine⟨_,(ak (aB (bJ (aa aN (aa (cR gA (cR gA (pv 0) (pv 1)) (f7 (aG MD (pv 0) (pv 2) (aJ _)) (pv 3) au)) ah))))),?_⟩;refine⟨_,rfl,_,rfl,_,_,rfl,rfl,_,rfl,_,rfl,_,_,rfl,rfl,_,rfl,?_⟩;have fin:∀z:Int,z=(if low<=n then a else 0)->∀p,H p=none->Q (.ref p) (upd H p (.tup [.str "var", .int (n+b+z)])):=λz G p l=>by refine q _ _ (av l _) ?_;rw[G];exact fe l (rs OJ (rs ri r0))
 refine a_ (λc=>?_) (λc=>?_);·have c:low<=n:=of_decide_eq_true c;exact⟨_,rfl,_,_,rfl,rfl,(gZ rfl),fin a (by rw[if_pos c])⟩
 ·have c:¬low<=n:=of_decide_eq_false (Bool.eq_false_iff.mpr c);exact⟨_,_,rfl,rfl,(gZ rfl),fin 0 (by rw[if_neg c])⟩
theorem CP{x:Str}{ps:List D}{k:Bool}(wf:bz ar k (.tup (.str x::ps))=true)(f:Nat->D)(d:∀(i:Nat)(p:D)(c:Nat),(az x ps)[i]?=some p->eE ar c p=true->(c=107\/c=116)->eE ar c (f i)=true):bz ar k (bT x ps ((List.range (az x ps).length).map f))=true:=by
 unfold bT;by_cases hq:(List.range (az x ps).length).map f=[];·rw[if_pos hq];exact wf
 rw[if_neg hq];obtain⟨s,h1,h2,h3,h4,h5,h6,n,_⟩:=bF wf;have g:dj x=false:=by cases e:dj x with|false=>rfl|true=>exact absurd (by unfold az;rw[if_pos e];rfl) hq
 have m:az x ps=ps:=by unfold az;rw[g];rfl
 refine jn h1 h2 ?_;rw[m]at d⊢;have r:∀(cs:List Nat)(a:List D)(j:Nat),eK ar cs a=true->(∀c∈cs,c=107\/c=116)->(∀(i:Nat)(p:D)(c:Nat),a[i]?=some p->eE ar c p=true->(c=107\/c=116)->eE ar c (f (j+i))=true)->eK ar cs ((List.range' j a.length).map f)=true:=λcs=>by
  induction cs with
   |nil=>intro a j h _ _;cases a with|nil=>exact h|cons _ _=>simp[eK]at h
   |cons c cs o=>intro a j h hc b;cases a with|nil=>simp[eK]at h|cons q a=>rw[aP,bD]at h;rw[dY,List.range'_succ,dQ,aP,bD];refine⟨by have :=b 0 q c rfl h.1 (hc c cj);rwa[Nat.add_zero]at this,o a (j+1) h.2 (λc h=>hc c (cF _ h)) λi p l e1 e2 e3=>?_⟩;have :=b (i+1) p l (by simpa using e1) e2 e3;rwa[show j+1+i=j+(i+1)by omega]
 have :=r s.cps.toList ps 0 h3 (λc hc=>n g c hc) λi p c e1 e2 e3=>by rw[Nat.zero_add];exact d i p c e1 e2 e3
 rwa[<-List.range_eq_range']at this
theorem Km{x:Str}{ps:List D}{k:Bool}(wf:bz ar k (.tup (.str x::ps))=true)(f:Nat->D)(d:∀(i:Nat)(p:D),(az x ps)[i]?=some p->aX (f i)=aX p/\depth (f i)=depth p):aX (bT x ps ((List.range (az x ps).length).map f))=aX (.tup (.str x::ps))/\depth (bT x ps ((List.range (az x ps).length).map f))=depth (.tup (.str x::ps)):=by
 unfold bT;by_cases hq:(List.range (az x ps).length).map f=[];·rw[if_pos hq];exact⟨rfl,rfl⟩
 rw[if_neg hq];have n:dj x=false:=by cases e:dj x with|false=>rfl|true=>exact absurd (by unfold az;rw[if_pos e];rfl) hq
 have g:az x ps=ps:=by unfold az;rw[n];rfl
 rw[g]at d⊢;have m:∀(a:List D)(j:Nat),(∀(i:Nat)(p:D),a[i]?=some p->aX (f (j+i))=aX p/\depth (f (j+i))=depth p)->aY ((List.range' j a.length).map f)=aY a/\aw ((List.range' j a.length).map f)=aw a:=λa=>by
  induction a with
   |nil=>intro _ _;exact⟨rfl,rfl⟩
   |cons q a l=>
    intro j h;obtain⟨a1,a2⟩:=l (j+1) λi p e=>by have :=h (i+1) p (by simpa using e);rwa[show j+1+i=j+(i+1)by omega]
    obtain⟨b,c⟩:=h 0 q rfl;rw[Nat.add_zero]at b c;rw[dY,List.range'_succ,dQ,aY,aw,aY,aw,a1,a2,b,c];exact⟨rfl,rfl⟩
 have :=m ps 0 λi p e=>by rw[Nat.zero_add];exact d i p e
 rw[<-List.range_eq_range']at this;simp only[aX,aY,depth,aw];rw[this.1,this.2];exact⟨rfl,rfl⟩
theorem Ij{k:Bool}{ps:List D}(wf:bz ar k (.tup (.str "var"::ps))=true):∃i:Int,ps=[.int i]/\0<=i/\k=false:=by
 obtain⟨c,e1,e2,e3,_,b,_⟩:=bF wf;rw[fA]at e1;cases e1;rw[CM]at e3 b;obtain⟨a,rfl⟩:∃a,ps=[a]:=by cases ps with|nil=>simp at b|cons a rest=>cases rest with|nil=>exact⟨a,rfl⟩|cons _ _=>simp at b
 rw[aP,bD]at e3;have hn:jP a=true:=by simpa[eE]using e3.1
 obtain⟨i,rfl⟩:∃i,a= .int i:=by cases a<;>first|exact⟨_,rfl⟩|simp[jP]at hn
 exact⟨i,rfl,by simpa[jP]using hn,by rw[<-e2];exact Dd⟩
theorem Ii{z:Int}(h:0<=z):bz ar false (.tup [.str "var", .int z])=true:=by refine jn fA Dd ?_;rw[CM,aP];simp[eE,jP,h,eK]
theorem N4{c:Nat}{p:D}(h:eE ar c p=true)(hc:c=107\/c=116):∃k,bz ar k p=true/\∀q,bz ar k q=true->eE ar c q=true:=by
 rcases hc with rfl|rfl;·exact⟨true,h,λq hq=>hq⟩
 ·exact⟨false,h,λq hq=>hq⟩
theorem nN{a low:Int}(g:0<=a):∀(n:Nat)(b:Int)(d:D)(k:Bool),0<=b->depth d<n->bz ar k d=true->bz ar k (kX (uX a low) n b d)=true/\aX (kX (uX a low) n b d)=aX d/\depth (kX (uX a low) n b d)=depth d
 |0,_,_,_,_,h,_=>absurd h (Nat.not_lt_zero _)
 |n+1,b,d,k,hb,hd,wf=>by
  obtain⟨x,ps,rfl⟩:=cz wf;by_cases j:x="var"
  ·subst j;obtain⟨i,rfl,hi,rfl⟩:=Ij wf;have e:kX (uX a low) (n+1) b (.tup [.str "var", .int i])=if b<=i then uX a low (i-b) b else .tup [.str "var", .int i]:=by rw[kX,if_pos rfl]
   rw[e];split;·unfold uX;refine⟨Ii ?_,by simp[aX,aY],by simp[depth,aw]⟩;split<;>omega
   ·exact⟨wf,rfl,rfl⟩
  ·have e:kX (uX a low) (n+1) b (.tup (.str x::ps))=bT x ps ((List.range (az x ps).length).map λi=>kX (uX a low) n (b+pN x i) (((az x ps)[i]?).getD .aO)):=by
    conv=>lhs;unfold kX
    exact if_neg j
   rw[e];refine⟨CP wf _ λi p c e1 e2 e3=>?_,Km wf _ λi p e1=>?_⟩;·obtain⟨w1,w2⟩:=i_ wf e1;obtain⟨f,h1,h2⟩:=N4 e2 e3;rw[e1];exact h2 _ (nN g n (b+pN x i) p f (by have :=kD x i;omega) (by omega) h1).1
   ·obtain⟨⟨f,w1⟩,w2⟩:=i_ wf e1;rw[e1];exact(nN g n (b+pN x i) p f (by have :=kD x i;omega) (by omega) w1).2
noncomputable abbrev iE:Stmt:=(bu iV).getD 0 (.Pass ⟨0,0,0,0⟩)
theorem nS:gU ["number","binders"] ["other","at"] (ai iE):=oU rfl rfl rfl (by decide+kernel)
noncomputable def kS(o:D)(at_:Int)(n b:Int):D:=if n=at_ then kX (uX b 0) 58 0 o else .tup [.str "var", .int (n+b-(if at_<n then 1 else 0))]
noncomputable def xr:Str:="put_in.<locals>.change"
noncomputable def wC:Pos:=Kl iE
noncomputable abbrev vV(o:D)(at_:Int)(d:D):D:=kX (kS o at_) 58 0 d
noncomputable abbrev cP(d:D):Bool:=fV d||ja d
structure acL(H:Hp)(T1 T2:Addr)(at_:Int)(d o:D)(v u:V):Prop where
 r:Rep H d v
 ro:Rep H o u
 wf:Wf d
 wfo:Wf o
 dp:depth d<58
 dpo:depth o<58
 rz:Rz (vV o at_ d) 100
 t1:ke H T1 BC Bn
 t2:ke H T2 xr wC
def HG(C T1 T2:Addr):Sp:=λvs H Q E=>∃(d o:D)(v u:V)(at_:Int),vs=[v,u, .int at_]/\acL H T1 T2 at_ d o v u/\(∀(z:V)(H':Hp),ay H H'->cP (vV o at_ d)=false->Rep H' (vV o at_ d) z->Q z H')/\(∀H',ay H H'->cP (vV o at_ d)=true->E (.ref C) none H')
theorem xA:aC ["thing","other","at","change"] ["thing","other","at"] (ai iV):=⟨rfl,rfl,rfl,by decide+kernel,rfl,by decide+kernel,by decide+kernel⟩
theorem LY{T1 T2:Addr}(D:UE K mg "put_in" iV ["thing","other","at"] T2)(M:Mg mg t)(G:bO P w K mg b_ "raised" (63) ["thing","by","low"] (BK T1 58))(J:t_ P w K mg b_ "with_free" (58+64+3) ["thing","binders","change"] (Mp P w K mg 64 58))(F:bO P w K mg (c7 P w) "bounded" (104) ["thing"] (jF t.cw 100)):bO P w K mg (c7 P w) "put_in" (126) ["thing","other","at"] (HG t.cw T1 T2):=by
 refine D.xV xA (λvs H Q E h=>?_) (λbase f X A outer s H vs Q E T a h=>?_);·obtain⟨d,o,v,u,at_,rfl,_⟩:=h;rfl
 obtain⟨d,o,v,u,at_,rfl,I,q,U⟩:=h;refine⟨_,(FF (i:=3) (qual:=xr) T rfl xA.nd rfl rfl rfl rfl (λm c doc pm ct=>(ak (aB (aV F a.m rfl (Jc bc (λ_ z=>nomatch z)) (aa (Lp J a.m rfl bh (aa (pv 0) (aa au (aa (pv 3) ah)))) ah)))))),?_⟩;try dsimp only[iG,Y]
 refine⟨I.t2,λm c doc pm ct L s1 hc=>?_⟩;refine⟨v,rfl,_,rfl,λb' B=>?_⟩;refine⟨d,v,0,m,kS o at_,λH'=>H' c=some (ic xr)/\Rep H' o u/\ke H' T1 BC Bn,rfl,I.r.mono s1,I.wf,I.dp,Int.le_refl 0,⟨hc,I.ro.mono s1,I.t1.mono s1⟩,⟨?_,λL N h s=>⟨s _ _ h.1,h.2.1.mono s,h.2.2.mono s⟩⟩,λz N s2 y=>?_⟩;rotate_left;·exact⟨_,z,rfl,y,I.rz,λj g l=>q z j (s1.trans (s2.trans g)) l (y.mono g),λj g l=>U j (s1.trans (s2.trans g)) l⟩
 have C:=Lo (cs:=["other","at"]) (ws:=[u, .int at_]) B rfl (by simp) rfl λi x e=>by match i,e with|0,e=>cases e;exact⟨1,_,rfl,rfl,rfl,rfl,rfl,rfl⟩|1,e=>cases e;exact⟨2,_,rfl,rfl,rfl,rfl,rfl,rfl⟩|i+2,e=>simp at e
 refine Hk (k:=63) nS C (λus hl=>match us,hl with|[_,_],_=>rfl) (λvs H Q⟨n,b,e,_,_,h,_⟩=>⟨by rw[e];rfl,h.1⟩) λW A outer s H vs Q a h=>?_;obtain⟨n,b,rfl,Z,hb,⟨_,R,O⟩,q⟩:=h;refine⟨_,(aj (bj (aG cx (pv 0) (pv 3) (aJ _)) (ak (aB (aV G a.m rfl bh (aa (pv 2) (aa (pv 1) (aa au ah)))))) aK) (ak (aB (bJ (aa aN (aa (cR DW (cR gA (pv 0) (pv 1)) (f7 (aG oX (pv 0) (pv 3) (aJ _)) au au)) ah)))))),?_⟩;unfold kS at q;refine⟨_,rfl,_,rfl,rfl,_,rfl,?_⟩;refine a_ (λc=>?_) (λc=>?_)
 ·have c:n=at_:=by have :V.int n=V.int at_:=of_decide_eq_true c;injection this
  rw[if_pos c]at q;exact⟨_,rfl,_,rfl,o,u,b,0,rfl,R,I.wfo,I.dpo,O,q⟩
 have c:¬n=at_:=λz=>c (by rw[z];exact decide_eq_true rfl);rw[if_neg c]at q;refine⟨_,rfl,_,rfl,_,_,rfl,rfl,_,rfl,_,rfl,_,_,rfl,rfl,_,rfl,?_⟩;have fin:∀z:Int,z=(if at_<n then 1 else 0)->∀p,H p=none->Q (.ref p) (upd H p (.tup [.str "var", .int (n+b-z)])):=λz S p r=>by refine q _ _ (av r _) ?_;rw[S];exact fe r (rs OJ (rs ri r0))
 refine a_ (λc=>?_) (λc=>?_);·have c:at_<n:=of_decide_eq_true c;exact⟨_,_,rfl,rfl,(gZ rfl),fin 1 (by rw[if_pos c])⟩
 ·have c:¬at_<n:=of_decide_eq_false (Bool.eq_false_iff.mpr c);exact⟨_,_,rfl,rfl,(gZ rfl),fin 0 (by rw[if_neg c])⟩
end K62
end
section
namespace L3
open PySem PySem.Spec PyProof.Rows L2
end L3
end
section
namespace K62
open PySem L2 L3 KM PyProof.Rows
seal L2.PE L2.PS L2.gR L2.PT L2.PW L2.PA L2.PG L2.zI L2.PI L2.PC L2.PO L2.E_ L2.PK L3.zD L3.PH L3.PB
variable{P:Program}{w:World}{K:PySem.W.Frag}{mg:Str->Option Value}{base:Heap}{t:wQ}
noncomputable abbrev A5:=List Nat×Str
noncomputable def abS:V->Option Str| .str y=>some y|_=>none
noncomputable def gh(inb:Str->Bool)(d:D):Option Str:=abS (cb inb d)
theorem jk(inb:Str->Bool)(d:D):(cb inb d= .aO/\gh inb d=none)\/∃y:Str,cb inb d= .str y/\gh inb d=some y/\y.length<=1000/\yd (.str y)=true:=by
 have st:∀y:Str,cb inb d= .str y->y.length<=1000->yd (.str y)=true->(cb inb d= .aO/\gh inb d=none)\/∃y:Str,cb inb d= .str y/\gh inb d=some y/\y.length<=1000/\yd (.str y)=true:=λy e h1 h2=> .inr ⟨y,e,by unfold gh;rw[e];rfl,h1,h2⟩;have b:cb inb d= .aO->(cb inb d= .aO/\gh inb d=none)\/∃y:Str,cb inb d= .str y/\gh inb d=some y/\y.length<=1000/\yd (.str y)=true:=λe=> .inl ⟨e,by unfold gh;rw[e];rfl⟩;have cs:cb inb d= .aO\/∃y∈(["name","fun","like","first","second","zero","next"]:List Str),cb inb d= .str y:=by
  unfold cb;split
  ·unfold iI Ic;repeat' split
   all_goals first|exact .inl rfl|exact .inr ⟨_,by decide+kernel,rfl⟩
  ·exact .inl rfl
 rcases cs with h|⟨y,a,h⟩;·exact b h
 ·have hb:y.length<=1000/\yd (.str y)=true:=by simp only[gF,jr,or_false]at a;rcases a with rfl|rfl|rfl|rfl|rfl|rfl|rfl<;>exact⟨by decide+kernel,by decide+kernel⟩
  exact st y h hb.1 hb.2
noncomputable def Oa(r:A5):D:= .tup [XW r.1, .str r.2]
theorem Jl{H:Hp}{i:Nat}{pl:List Nat}{a:Addr}{vs:List V}(h:H a=some (.tup (V.int i::vs)))(r:bg H (pl.map λi=>D.int (i:Nat)) vs):Rep H (XW (i::pl)) (.ref a):=⟨a,_,rfl,h,_,_,rfl,rfl,r⟩
mutual noncomputable def ft(inb:Str->Bool):D->Option A5
 | .tup (.str x::ps)=>match gh inb (.tup (.str x::ps))with|some y=>some ([],y)|none=>if dj x=true then none else jL inb 0 ps
 |_=>none noncomputable def jL(inb:Str->Bool):Nat->List D->Option A5|_,[]=>none|i,d::ds=>match ft inb d with|some r=>some (i::r.1,r.2)|none=>jL inb (i+1) ds end
theorem Pq(inb:Str->Bool)(x:Str)(ps:List D):ft inb (.tup (.str x::ps))=match gh inb (.tup (.str x::ps))with|some y=>some ([],y)|none=>jL inb 0 (az x ps):=by
 rw[ft];cases gh inb (.tup (.str x::ps))with
  |some y=>rfl
  |none=>
   show(if dj x=true then none else jL inb 0 ps)=jL inb 0 (az x ps);unfold az;split;·rw[jL]
   ·rfl
noncomputable def FsV(H:Hp):Option A5->V->Prop|none,u=>u= .aO|some r,u=>Rep H (Oa r) u
mutual theorem HK(inb:Str->Bool):∀(d:D)(r:A5),ft inb d=some r->r.1.length<depth d/\r.2.length<=1000
 | .tup (.str x::ps),r,h=>by
  rw[ft]at h;rcases jk inb (.tup (.str x::ps))with⟨_,e⟩|⟨y,_,e,hy,_⟩
  ·rw[e]at h;have h:(if dj x=true then none else jL inb 0 ps)=some r:=h;split at h;·cases h
   ·have :=BF inb ps 0 r h;simp only[depth,aw];omega
  ·rw[e]at h;have h:some (([]:List Nat),y)=some r:=h;cases h;exact⟨by simp only[depth];show 0<_;omega,hy⟩
 | .tup [],r,h=>by simp[ft]at h
 | .tup (.aO::_),r,h=>by simp[ft]at h
 | .tup (.bl _::_),r,h=>by simp[ft]at h
 | .tup (.int _::_),r,h=>by simp[ft]at h
 | .tup (.tup _::_),r,h=>by simp[ft]at h
 | .aO,r,h=>by simp[ft]at h
 | .bl _,r,h=>by simp[ft]at h
 | .int _,r,h=>by simp[ft]at h
 | .str _,r,h=>by simp[ft]at h theorem BF(inb:Str->Bool):∀(ds:List D)(i:Nat)(r:A5),jL inb i ds=some r->r.1.length<=aw ds/\r.2.length<=1000|[],i,r,h=>by rw[jL]at h;cases h|d::ds,i,r,h=>by rw[jL]at h;simp only[aw];cases e:ft inb d with|some q=>rw[e]at h;have h:some ((i::q.1,q.2):A5)=some r:=h;cases h;have :=HK inb d q e;exact⟨by show q.1.length+1<=_;omega,this.2⟩|none=>rw[e]at h;have :=BF inb ds (i+1) r h;exact⟨by omega,this.2⟩end
def qM(n:Nat):Sp:=λvs H Q _=>∃(d:D)(v:V)(b:Addr)(aE:List (Key×V)),vs=[v, .ref b]/\Rep H d v/\Rz d n/\n<=100/\H b=some (.dK aE)/\∀(u:V)(H':Hp),ay H H'->FsV H' (ft (g6 aE) d) u->Q u H'
theorem dE:aC ["thing","book","rule","number","kid","step"] ["thing","book"] (ai dX):=⟨rfl,rfl,rfl,by decide+kernel,rfl,by decide+kernel,by decide+kernel⟩
theorem vH{n:Nat}(D:Df K mg "first_step" dX ["thing","book"])(M:Mg mg t)(dJ:bO P w K mg b_ "rule_of" (1) ["thing","book"] uf)(ba:bO P w K mg b_ "kids_of" (1) ["thing"] gE)(fi:bO P w K mg b_ "first_step" (n+3) ["thing","book"] (qM n)):bO P w K mg b_ "first_step" (n+4) ["thing","book"] (qM (n+1)):=by
 refine D.ok dE (λvs H Q E h=>?_) (λbase f bS A outer s H vs Q E B h=>?_);·obtain⟨d,v,b,aE,rfl,_⟩:=h;rfl
 obtain⟨d,v,b,aE,rfl,r,rz,hn,hb,q⟩:=h;obtain⟨x,ps,k,rfl,wf,Cn⟩:=tX rz.wf;have hk4:=MC wf;refine⟨_,(aj (aR (i:=2) dE.nd rfl (dq rfl) (aV dJ B.m rfl bh (aa (pv 0) (aa (pv 1) ah)))) (aj (bj (aG qV (pv 2) fO (aJ _)) (ak (aB (bJ (aa (bJ ah) (aa (pv 2) ah))))) aK) (aj (gD PassesOwn.never rfl (L1 rfl M.Cj (aa (aV ba B.m rfl bh (aa (pv 0) ah)) ah)) (t9 (n:=2) rfl (cO (bx (i:=3) dE.nd rfl (dq rfl)) (cO (bx (i:=4) dE.nd rfl (dq rfl)) ma))) (aj (aR (i:=5) dE.nd rfl (dq rfl) (aV fi B.m rfl bh (aa (pv 4) (aa (pv 1) ah)))) (ak (bj (aG qV (pv 5) fO (aJ _)) (ak (aB (bJ (aa (cR s_ (bJ (aa (pv 3) ah)) (aZ aW (pv 5) au (λ_ _=>rfl))) (aa (aZ aW (pv 5) au (λ_ _=>rfl)) ah))))) aK)))) (ak (aB fO))))),?_⟩;try dsimp only[iG,cQ]
 refine JK ?_;intro _ _ _ _;refine⟨_,rfl,_,rfl,_,v,b,aE,rfl,r,rz.wf,hb,λH1 s1=>?_⟩;rw[Pq]at q;rcases jk (g6 aE) (.tup (.str x::ps))with⟨e1,e2⟩|⟨y,e1,e2,g,_⟩
 ·rw[e1];rw[e2]at q;have q:∀(u:V)(H':Hp),ay H H'->FsV H' (jL (g6 aE) 0 (az x ps)) u->Q u H':=q;refine⟨_,rfl,rfl,_,rfl,a_ (λc=>absurd c (by decide)) (λ_=>?_)⟩;refine⟨_,rfl,x,ps,v,rfl,r.mono s1,Cn,λp3 us H3 Ol s3 h3 r3=>?_⟩;have l3:=r3.length;have L:=s1.trans s3;refine⟨p3,us,rfl,bI.of h3,?_⟩;let Jm:Nat->L2.St->Hp->Prop:=(λi T H'=>∃(F C R:Option V),T=[some v,some (.ref b),some V.aO,F,C,R]/\ay H3 H'/\jL (g6 aE) 0 (az x ps)=jL (g6 aE) i ((az x ps).drop i));refine iU us.length Jm ?_ ?_ ?_;·exact⟨none,none,none,rfl,ay.refl _,rfl⟩
  ·rintro i T U hi⟨F,C,R,rfl,e,a⟩;obtain⟨l,o⟩:∃l,(az x ps)[i]?=some l:=⟨_,dR (by omega)⟩;obtain⟨S,Y,I⟩:=r3.get o;have I:=I.mono e;have hb4:U b=some (.dK aE):=e _ _ (L _ _ hb);refine⟨⟨us,S,bI.of (e _ _ h3),Y⟩,?_⟩;rintro x' H4'⟨p5,y,rfl,Ww,rfl,g⟩;have g:=g us (bI.of (e _ _ h3));rw[Y]at g;cases g;have p:=av Ww (.tup [V.int (i:Nat),S]);have rzi:=rz.kid o;have hdr:(az x ps).drop i=l::(az x ps).drop (i+1):=by
    have hl:i<(az x ps).length:=by omega
    rw[El hl];rw[dR hl]at o;rw[Option.some.inj o]
   rw[hdr,jL]at a;refine⟨p5,_,rfl,bQ.of aq,rfl,_,_,rfl,_,_,rfl,rfl,?_⟩;refine⟨_,rfl,_,rfl,l,S,b,aE,rfl,I.mono p,rzi,(by omega),p _ _ hb4,λu6 H6 s6 m=>?_⟩;cases z:ft (g6 aE) l with
    |none=>rw[z]at m a;cases(show u6=V.aO from m);refine⟨_,rfl,rfl,_,rfl,a_ (λc=>absurd c (by decide)) (λ_=>?_)⟩;exact⟨_,_,_,rfl,e.trans (p.trans s6),a⟩
    |some G=>
     rw[z]at m a;have a:jL (g6 aE) 0 (az x ps)=some (i::G.1,G.2):=a;rw[a]at q;obtain⟨j0,hy2⟩:=HK _ _ _ z;have hdd:=rzi.dp;obtain⟨W,_,rfl,X,⟨v1,_,rfl,r1,⟨v2,_,rfl,⟨rfl,_⟩,rn⟩⟩⟩:=m;cases(show _=[]from rn);obtain⟨bb,vs,rfl,hbb,rb⟩:=r1;have lb:=rb.length;rw[cy]at lb;refine⟨_,rfl,rfl,_,rfl,a_ (λ_=>?_) (λc=>absurd rfl c)⟩;refine⟨_,rfl,(gZ rfl),λp9 hp9=>?_⟩;have N:=av hp9 (.tup [V.int (i:Nat)]);refine⟨_,rfl,W,_,_,_,rfl,rfl,bQ.of (N _ _ X),aH (j:=0) rfl,p9,bb,_,_,rfl,rfl,aq,N _ _ hbb,?_,λp8 H8 s8 h8=>?_⟩;·rw[sizeLine_eq,List.length_singleton];omega
     have O:=N.trans s8;refine⟨_,rfl,W,_,_,_,rfl,rfl,bQ.of (O _ _ X),aH (j:=1) rfl,(gZ rfl),λp10 LV=>?_⟩;have J:=av LV (.tup [V.ref p8, .str G.2]);exact q _ _ (L.trans (e.trans (p.trans (s6.trans (O.trans J))))) ⟨p10,_,rfl,aq,⟨_,_,rfl,Jl (J _ _ h8) (rb.mono (O.trans J)),⟨_,_,rfl,⟨rfl,hy2⟩,rfl⟩⟩⟩
  ·rintro T U⟨F,C,R,rfl,e,a⟩;refine⟨⟨us,bI.of (e _ _ h3),rfl⟩,?_⟩;rw[l3,List.drop_length,jL]at a;rw[a]at q;exact q _ _ (L.trans e) rfl
 ·rw[e1];rw[e2]at q;refine⟨_,rfl,rfl,_,rfl,a_ (λ_=>?_) (λc=>absurd rfl c)⟩;refine⟨(gZ rfl),λZ A3=>⟨_,rfl,(gZ rfl),λp1 GL=>?_⟩⟩;have t0:=av A3 (.tup []);have t1:=av GL (.tup [V.ref Z, .str y]);exact q _ _ (s1.trans (t0.trans t1)) ⟨p1,_,rfl,aq,⟨_,_,rfl,⟨Z,[],rfl,t1 _ _ aq,rfl⟩,⟨_,_,rfl,⟨rfl,g⟩,rfl⟩⟩⟩
theorem mz(D:Df K mg "first_step" dX ["thing","book"])(M:Mg mg t)(c:bO P w K mg b_ "rule_of" (1) ["thing","book"] uf)(a:bO P w K mg b_ "kids_of" (1) ["thing"] gE):∀n:Nat,bO P w K mg b_ "first_step" (n+3) ["thing","book"] (qM n)|0=>bO.never D λvs H Q E⟨d,v,b,aE,_,_,h,_⟩=>absurd h.dp (Nat.not_lt_zero _)|n+1=>vH D M c a (mz D M c a n)
end K62
end
section
namespace K62
open PySem L2 L3 KM PyProof.Rows
noncomputable def uT(at_:Int):Nat->Int->D->Nat|n+1,b, .tup (.str x::ps)=>if x="var"then(match ps with|[.int i]=>if i=at_+b then 1 else 0|_=>0)else((List.range (az x ps).length).map λi=>uT at_ n (b+pN x i) (((az x ps)[i]?).getD .aO)).sum|_,_,_=>0
theorem IK{x:Str}{ps:List D}{k:Bool}(wf:bz ar k (.tup (.str x::ps))=true)(f:Nat->D):aX (bT x ps ((List.range (az x ps).length).map f))=1+((List.range (az x ps).length).map λi=>aX (f i)).sum/\depth (bT x ps ((List.range (az x ps).length).map f))=1+yG ((List.range (az x ps).length).map λi=>depth (f i)):=by
 unfold bT;by_cases hq:(List.range (az x ps).length).map f=[]
 ·rw[if_pos hq];have hl:(az x ps).length=0:=by have :=congrArg List.length hq;rw[cy,List.length_range]at this;exact this
  obtain⟨e1,e2⟩:=vg wf;rw[e1,e2,hl,List.length_eq_zero_iff.mp hl];exact⟨rfl,rfl⟩
 ·rw[if_neg hq];have e1:aX (.tup (.str x::(List.range (az x ps).length).map f))=1+aY ((List.range (az x ps).length).map f):=by simp[aX,aY]
  have e2:depth (.tup (.str x::(List.range (az x ps).length).map f))=1+aw ((List.range (az x ps).length).map f):=by simp[depth,aw]
  rw[e1,e2,kE,kT,List.map_map,List.map_map];exact⟨rfl,rfl⟩
theorem Fl{x:Str}{ps:List D}{k:Bool}(wf:bz ar k (.tup (.str x::ps))=true):aX (.tup (.str x::ps))=1+((List.range (az x ps).length).map λi=>aX (((az x ps)[i]?).getD .aO)).sum/\depth (.tup (.str x::ps))=1+yG ((List.range (az x ps).length).map λi=>depth (((az x ps)[i]?).getD .aO)):=by
 obtain⟨e1,e2⟩:=vg wf;rw[e1,e2];have a:∀(l:List D)(g:D->Nat),l.map g=(List.range l.length).map λi=>g ((l[i]?).getD .aO):=λl g=>by
  refine List.ext_getElem (by simp) λi h1 h2=>?_;have hi:i<l.length:=by simpa using h1
  simp[dR hi]
 rw[a _ aX,a _ depth];exact⟨rfl,rfl⟩
theorem GI(A B C:Nat->Nat)(m:Nat):∀l:List Nat,(∀i∈l,A i+C i=B i+C i*m)->(l.map A).sum+(l.map C).sum=(l.map B).sum+(l.map C).sum*m|[],_=>by simp|i::l,h=>by have a:=GI A B C m l λj c=>h j (cF _ c);have b:=h i cj;simp only[dQ,List.sum_cons,Nat.add_mul];omega
theorem GP(A B:Nat->Nat):∀l:List Nat,(∀i∈l,A i<=B i)->(l.map A).sum<=(l.map B).sum|[],_=>by simp|i::l,h=>by have a:=GP A B l λj c=>h j (cF _ c);have b:=h i cj;simp only[dQ,List.sum_cons];omega
theorem GZ(A B:Nat->Nat)(m:Nat):∀l:List Nat,(∀i∈l,A i<=B i+m)->yG (l.map A)<=yG (l.map B)+m|[],_=>by simp[yG]|i::l,h=>by have a:=GZ A B m l λj c=>h j (cF _ c);have b:=h i cj;simp only[dQ,yG];omega
theorem fz{o:D}{at_:Int}(m:0<=at_)(l:bz ar false o=true)(j:depth o<58):∀(n:Nat)(b:Int)(d:D)(k:Bool),0<=b->depth d<n->bz ar k d=true->bz ar k (kX (kS o at_) n b d)=true/\aX (kX (kS o at_) n b d)+uT at_ n b d=aX d+uT at_ n b d*aX o/\depth (kX (kS o at_) n b d)<=depth d+depth o/\uT at_ n b d<=aX d
 |0,_,_,_,_,h,_=>absurd h (Nat.not_lt_zero _)
 |n+1,b,d,k,hb,hd,wf=>by
  obtain⟨x,ps,rfl⟩:=cz wf;by_cases r:x="var"
  ·subst r;obtain⟨i,rfl,hi,rfl⟩:=Ij wf;have e:kX (kS o at_) (n+1) b (.tup [.str "var", .int i])=if b<=i then kS o at_ (i-b) b else .tup [.str "var", .int i]:=by rw[kX,if_pos rfl]
   have q:uT at_ (n+1) b (.tup [.str "var", .int i])=if i=at_+b then 1 else 0:=by rw[uT,if_pos rfl]
   have g:∀z:Int,aX (.tup [.str "var", .int z])=1/\depth (.tup [.str "var", .int z])=1:=λz=>⟨by simp[aX,aY],by simp[depth,aw]⟩;rw[e,q,(g i).1,(g i).2];by_cases c:b<=i
   ·rw[if_pos c];unfold kS;by_cases c2:i-b=at_;·rw[if_pos c2,if_pos (show i=at_+b by omega)];obtain⟨a1,a2,a3⟩:=nN (low:=0) hb 58 0 o false (Int.le_refl 0) j l;rw[a2,a3];exact⟨a1,by omega,by omega,bf _⟩
    ·rw[if_neg c2,if_neg (show¬i=at_+b by omega),(g _).1,(g _).2];refine⟨Ii ?_,by omega,by omega,dA _⟩;split<;>omega
   ·rw[if_neg c,if_neg (show¬i=at_+b by omega),(g _).1,(g _).2];exact⟨wf,by omega,by omega,dA _⟩
  ·have e:kX (kS o at_) (n+1) b (.tup (.str x::ps))=bT x ps ((List.range (az x ps).length).map λi=>kX (kS o at_) n (b+pN x i) (((az x ps)[i]?).getD .aO)):=by
    conv=>lhs;unfold kX
    exact if_neg r
   have q:uT at_ (n+1) b (.tup (.str x::ps))=((List.range (az x ps).length).map λi=>uT at_ n (b+pN x i) (((az x ps)[i]?).getD .aO)).sum:=by
    conv=>lhs;unfold uT
    exact if_neg r
   rw[e,q];have each:∀(i:Nat),i∈List.range (az x ps).length->∃p a,(az x ps)[i]?=some p/\depth p<depth (.tup (.str x::ps))/\bz ar a p=true:=λi hi=>by obtain⟨p,f⟩:∃p,(az x ps)[i]?=some p:=⟨_,dR (List.mem_range.mp hi)⟩;obtain⟨⟨a,w1⟩,w2⟩:=i_ wf f;exact⟨p,a,f,w2,w1⟩
   obtain⟨s,t⟩:=Fl wf;obtain⟨u,v⟩:=IK wf λi=>kX (kS o at_) n (b+pN x i) (((az x ps)[i]?).getD .aO);rw[u,v,s,t];refine⟨CP wf _ λi p c e1 e2 e3=>?_,?_,?_,?_⟩;·obtain⟨w1,w2⟩:=i_ wf e1;obtain⟨a,h1,h2⟩:=N4 e2 e3;rw[e1];exact h2 _ (fz m l j n (b+pN x i) p a (by have :=kD x i;omega) (by omega) h1).1
   ·have :=GI (λi=>aX (kX (kS o at_) n (b+pN x i) (((az x ps)[i]?).getD .aO))) (λi=>aX (((az x ps)[i]?).getD .aO)) (λi=>uT at_ n (b+pN x i) (((az x ps)[i]?).getD .aO)) (aX o) (List.range (az x ps).length) λi hi=>by obtain⟨p,a,f,w2,w1⟩:=each i hi;simp only[f,Option.getD_some];exact(fz m l j n (b+pN x i) p a (by have :=kD x i;omega) (by omega) w1).2.1
    omega
   ·have :=GZ (λi=>depth (kX (kS o at_) n (b+pN x i) (((az x ps)[i]?).getD .aO))) (λi=>depth (((az x ps)[i]?).getD .aO)) (depth o) (List.range (az x ps).length) λi hi=>by obtain⟨p,a,f,w2,w1⟩:=each i hi;simp only[f,Option.getD_some];exact(fz m l j n (b+pN x i) p a (by have :=kD x i;omega) (by omega) w1).2.2.1
    omega
   ·have :=GP (λi=>uT at_ n (b+pN x i) (((az x ps)[i]?).getD .aO)) (λi=>aX (((az x ps)[i]?).getD .aO)) (List.range (az x ps).length) λi hi=>by obtain⟨p,a,f,w2,w1⟩:=each i hi;simp only[f,Option.getD_some];exact(fz m l j n (b+pN x i) p a (by have :=kD x i;omega) (by omega) w1).2.2.2
    omega
end K62
end
section
namespace K62
open PySem L2 L3 KM PyProof.Rows
seal L2.PE L2.PS L2.gR L2.PT L2.PW L2.PA L2.PG L2.zI L2.PI L2.PC L2.PO L2.E_ L2.PK L3.zD L3.PH L3.PB
variable{P:Program}{w:World}{K:PySem.W.Frag}{mg:Str->Option Value}{base:Heap}{t:wQ}
theorem Hy(pl:List Nat):QB (lJ pl)=XW pl:=by unfold QB lJ XW;rw[List.map_map];rfl
inductive EN(B:Str->D):D->Str->D->Bool->Prop|fn{k bd o:D}:Wf bd->Wf o->depth bd<58->depth o<58->Rz (vV o 0 bd) 100->EN B (.tup [.str "app", .tup [.str "fun",k,bd],o]) "fun" (vV o 0 bd) (cP (vV o 0 bd))|zero{k b s n:D}:EN B (.tup [.str "rec",k,b,s,n]) "zero" b false|O5{k x l:D}:EN B (.tup [.str "carry",k,x,l]) "like" x false|next{k b s n:D}:EN B (.tup [.str "rec",k,b,s, .tup [.str "next",n]]) "next" (.tup [.str "app", .tup [.str "app",s,n], .tup [.str "rec",k,b,s,n]]) false|first{k a b:D}:EN B (.tup [.str "first", .tup [.str "pair",k,a,b]]) "first" a false|second{k a b:D}:EN B (.tup [.str "second", .tup [.str "pair",k,a,b]]) "second" b false|name{y:Str}:EN B (.tup [.str "name", .str y]) "name" (B y) false
def TC(H:Hp)(aE:List (Key×V))(B:Str->D):Prop:=∀y:Str,g6 aE y=true->∃(q:Addr)(b a:V),d9 aE (Sum.inr y:Key)=some (.ref q)/\H q=some (.tup [b,a])/\Rep H (B y) a
theorem TC.mono{H H':Hp}{aE:List (Key×V)}{B:Str->D}(h:TC H aE B)(s:ay H H'):TC H' aE B:=λy d=>let⟨q,e,f,a,b,c⟩:=h y d;⟨q,e,f,a,s _ _ b,c.mono s⟩
theorem wK{inb:Str->Bool}{y:Str}(h:cb inb (.tup [.str "name", .str y])= .str "name"):inb y=true:=by cases e:inb y with|true=>rfl|false=>simp[cb,iI,Ic,e]at h
structure R1(H:Hp)(T1 T2:Addr):Prop where
 t1:ke H T1 BC Bn
 t2:ke H T2 xr wC
theorem R1.mono{H H':Hp}{T1 T2:Addr}(h:R1 H T1 T2)(s:ay H H'):R1 H' T1 T2:=⟨h.t1.mono s,h.t2.mono s⟩
def wL:Sp:=λvs H Q _=>∃(k b s n:D)(v:V),vs=[v]/\Rep H (.tup [.str "rec",k,b,s, .tup [.str "next",n]]) v/\∀(z:V)(H':Hp),ay H H'->Rep H' (.tup [.str "app", .tup [.str "app",s,n], .tup [.str "rec",k,b,s,n]]) z->Q z H'
theorem kj:aC ["thing","number"] ["thing"] (ai e9):=⟨rfl,rfl,rfl,by decide+kernel,rfl,by decide+kernel,by decide+kernel⟩
theorem yO(D:Df K mg "after_next" e9 ["thing"])(M:Mg mg t):bO P w K mg b_ "after_next" (1) ["thing"] wL:=by
 refine D.ok kj (λvs H Q E h=>?_) (λbase f bS A outer s H vs Q E W h=>?_);·obtain⟨k,b,s,n,v,rfl,_⟩:=h;rfl
 obtain⟨k,b,s,n,v,rfl,N,q⟩:=h;refine⟨_,(aj (aR (i:=1) kj.nd rfl (dq rfl) (aZ aW (aZ aW (pv 0) au (λ_ _=>rfl)) au (λ_ _=>rfl))) (ak (aB (bJ (aa aN (aa (bJ (aa aN (aa (aZ aW (pv 0) au (λ_ _=>rfl)) (aa (pv 1) ah)))) (aa (cR s_ (mS GO (pv 0) zK (lQ au)) (bJ (aa (pv 1) ah))) ah))))))),?_⟩;try dsimp only[iG,U]
 refine pG ?_;intro _ _;obtain⟨a,us,rfl,ha,Y,us,rfl,⟨rfl,B⟩,Z,us,rfl,I,v2,us,rfl,J,l,us,rfl,p,v4,us,rfl,L,g⟩:=N;cases(show us=[]from g);obtain⟨c,ws,rfl,hc,w0,ws,rfl,⟨rfl,_⟩,w1,ws,rfl,r,g⟩:=id L;cases(show ws=[]from g);refine⟨_,rfl,a,_,_,_,rfl,rfl,bQ.of ha,aH (j:=4) rfl,c,_,_,_,rfl,rfl,bQ.of hc,aH (j:=1) rfl,?_⟩;refine⟨_,rfl,a,_,_,_,rfl,rfl,bQ.of ha,aH (j:=3) rfl,_,rfl,(gZ rfl),λe m=>?_⟩;have s1:=av m (.tup [V.str "app",l,w1]);have u:Rep (upd H e (.tup [V.str "app",l,w1])) (.tup [.str "app",s,n]) (.ref e):=fe m (rs OJ (rs p (rs r r0)));generalize upd H e (.tup [V.str "app",l,w1])=R at s1 u⊢;refine⟨_,rfl,_,rfl,a,_,rfl,s1 _ _ ha,λC S s2 h2=>?_⟩;rw[show(4:Int)=((4:Nat):Int)from rfl,QC]at h2;refine⟨_,rfl,(gZ rfl),λF z=>?_⟩;have y:=av z (.tup [w1]);refine⟨C,F,_,_,rfl,rfl,y _ _ h2,aq,(by rw[sizeLine_eq];show 4+1<=16777216;decide),λG T O h4=>⟨(gZ rfl),λX o=>?_⟩⟩;have x:=s2.trans (y.trans O);have d:=s1.trans x;refine q _ _ (d.trans (av o _)) (fe o (rs OJ (rs (u.mono x) (rs ⟨G,_,rfl,h4,?_⟩ r0))));exact rs ⟨rfl,B⟩ (rs (I.mono d) (rs (J.mono d) (rs (p.mono d) (rs (r.mono d) r0))))
def FW(G T1 T2:Addr):Sp:=λvs H Q E=>∃(B:Str->D)(e e':D)(v:V)(r:Str)(b:Addr)(aE:List (Key×V))(g:Bool),vs=[v, .str r, .ref b]/\Rep H e v/\EN B e r e' g/\R1 H T1 T2/\H b=some (.dK aE)/\TC H aE B/\cb (g6 aE) e= .str r/\(∀(z:V)(H':Hp),ay H H'->g=false->Rep H' e' z->Q z H')/\(∀H',ay H H'->g=true->E (.ref G) none H')
theorem vY:aC ["thing","rule","book"] ["thing","rule","book"] (ai fj):=⟨rfl,rfl,rfl,by decide+kernel,rfl,by decide+kernel,by decide+kernel⟩
theorem xU{T1 T2:Addr}(D:Df K mg "after_rule" fj ["thing","rule","book"])(M:Mg mg t)(I:bO P w K mg (c7 P w) "put_in" (126) ["thing","other","at"] (HG t.cw T1 T2))(G:bO P w K mg b_ "after_next" (1) ["thing"] wL):bO P w K mg (c7 P w) "after_rule" (127) ["thing","rule","book"] (FW t.cw T1 T2):=by
 refine D.xV vY (λvs H Q E h=>?_) (λbase f bS A outer s H vs Q E p h=>?_);·obtain⟨B,e,e',v,r,b,aE,g,rfl,_⟩:=h;rfl
 obtain⟨B,e,e',v,r,b,aE,g,rfl,k,ha,x,hb,N,O,q,T⟩:=h;have R:=Bu p;refine⟨_,(aj (bj (aG cx (pv 1) aN (aJ _)) (ak (aB (aV I p.m rfl bc (aa (aZ aW (aZ aW (pv 0) au (λ_ _=>rfl)) au (λ_ _=>rfl)) (aa (aZ aW (pv 0) au (λ_ _=>rfl)) (aa au ah)))))) aK) (aj (bj (aG cx (pv 1) aN (aJ _)) (ak (aB (aV G p.m rfl bh (aa (pv 0) ah)))) aK) (aj (bj (aG cx (pv 1) aN (aJ _)) (ak (aB (aZ aW (aZ aW (pv 0) au (λ_ _=>rfl)) au (λ_ _=>rfl)))) aK) (aj (bj (aG cx (pv 1) aN (aJ _)) (ak (aB (aZ aW (aZ aW (pv 0) au (λ_ _=>rfl)) au (λ_ _=>rfl)))) aK) (aj (bj (aG cx (pv 1) aN (aJ _)) (ak (aB (aZ aW (Q1 R (pv 2) (aZ aW (pv 0) au (λ_ _=>rfl)) (λ_ _=>rfl)) au (λ_ _=>rfl)))) aK) (ak (aB (aZ aW (pv 0) au (λ_ _=>rfl))))))))),?_⟩;try dsimp only[iG,cQ]
 refine aaB ?_;intro _ _ _ _ _ _;cases ha with|fn Y Z L J rz=>obtain⟨a,us,rfl,ha,m,us,rfl,⟨rfl,_⟩,n,us,rfl,i,u,us,rfl,l,d⟩:=k;cases(show us=[]from d);obtain⟨c,ws,rfl,hc,w0,ws,rfl,⟨rfl,_⟩,w1,ws,rfl,F,w2,ws,rfl,o,d⟩:=i;cases(show ws=[]from d);refine⟨_,rfl,rfl,_,rfl,a_ (λ_=>?_) (λc=>absurd (decide_eq_true rfl) c)⟩;refine⟨_,rfl,a,_,_,_,rfl,rfl,bQ.of ha,aH (j:=1) rfl,c,_,_,_,rfl,rfl,bQ.of hc,aH (j:=2) rfl,_,rfl,a,_,_,_,rfl,rfl,bQ.of ha,aH (j:=2) rfl,?_⟩;exact⟨_,_,w2,u,0,rfl,⟨o,l,Y,Z,L,J,rz,x.t1,x.t2⟩,q,T⟩|zero=>obtain⟨a,us,rfl,ha,m,us,rfl,⟨rfl,_⟩,n,us,rfl,i,u,us,rfl,l,W,us,rfl,V,v4,us,rfl,r4,d⟩:=k;cases(show us=[]from d);refine⟨_,rfl,rfl,_,rfl,a_ (λc=>absurd (of_decide_eq_true c) (by decide+kernel)) (λ_=>?_)⟩;refine⟨_,rfl,rfl,_,rfl,a_ (λc=>absurd (of_decide_eq_true c) (by decide+kernel)) (λ_=>?_)⟩;refine⟨_,rfl,rfl,_,rfl,a_ (λc=>absurd (of_decide_eq_true c) (by decide+kernel)) (λ_=>?_)⟩;refine⟨_,rfl,rfl,_,rfl,a_ (λc=>absurd (of_decide_eq_true c) (by decide+kernel)) (λ_=>?_)⟩;refine⟨_,rfl,rfl,_,rfl,a_ (λc=>absurd (of_decide_eq_true c) (by decide+kernel)) (λ_=>?_)⟩;exact⟨_,rfl,a,_,_,_,rfl,rfl,bQ.of ha,aH (j:=2) rfl,q _ H (ay.refl H) rfl l⟩|O5=>obtain⟨a,us,rfl,ha,m,us,rfl,⟨rfl,_⟩,n,us,rfl,i,u,us,rfl,l,W,us,rfl,V,d⟩:=k;cases(show us=[]from d);refine⟨_,rfl,rfl,_,rfl,a_ (λc=>absurd (of_decide_eq_true c) (by decide+kernel)) (λ_=>?_)⟩;refine⟨_,rfl,rfl,_,rfl,a_ (λc=>absurd (of_decide_eq_true c) (by decide+kernel)) (λ_=>?_)⟩;refine⟨_,rfl,rfl,_,rfl,a_ (λc=>absurd (of_decide_eq_true c) (by decide+kernel)) (λ_=>?_)⟩;refine⟨_,rfl,rfl,_,rfl,a_ (λc=>absurd (of_decide_eq_true c) (by decide+kernel)) (λ_=>?_)⟩;refine⟨_,rfl,rfl,_,rfl,a_ (λc=>absurd (of_decide_eq_true c) (by decide+kernel)) (λ_=>?_)⟩;exact⟨_,rfl,a,_,_,_,rfl,rfl,bQ.of ha,aH (j:=2) rfl,q _ H (ay.refl H) rfl l⟩|next=>refine⟨_,rfl,rfl,_,rfl,a_ (λc=>absurd (of_decide_eq_true c) (by decide+kernel)) (λ_=>?_)⟩;refine⟨_,rfl,rfl,_,rfl,a_ (λ_=>?_) (λc=>absurd (decide_eq_true rfl) c)⟩;exact⟨_,rfl,_,_,_,_,v,rfl,k,λz H' s' U=>q z H' s' rfl U⟩|first=>obtain⟨a,us,rfl,ha,m,us,rfl,⟨rfl,_⟩,n,us,rfl,i,d⟩:=k;cases(show us=[]from d);obtain⟨c,ws,rfl,hc,w0,ws,rfl,⟨rfl,_⟩,w1,ws,rfl,F,w2,ws,rfl,o,X,ws,rfl,C,d⟩:=i;cases(show ws=[]from d);refine⟨_,rfl,rfl,_,rfl,a_ (λc=>absurd (of_decide_eq_true c) (by decide+kernel)) (λ_=>?_)⟩;refine⟨_,rfl,rfl,_,rfl,a_ (λc=>absurd (of_decide_eq_true c) (by decide+kernel)) (λ_=>?_)⟩;refine⟨_,rfl,rfl,_,rfl,a_ (λ_=>?_) (λc=>absurd (decide_eq_true rfl) c)⟩;exact⟨_,rfl,a,_,_,_,rfl,rfl,bQ.of ha,aH (j:=1) rfl,c,_,_,_,rfl,rfl,bQ.of hc,aH (j:=2) rfl,q _ H (ay.refl H) rfl o⟩|second=>obtain⟨a,us,rfl,ha,m,us,rfl,⟨rfl,_⟩,n,us,rfl,i,d⟩:=k;cases(show us=[]from d);obtain⟨c,ws,rfl,hc,w0,ws,rfl,⟨rfl,_⟩,w1,ws,rfl,F,w2,ws,rfl,o,X,ws,rfl,C,d⟩:=i;cases(show ws=[]from d);refine⟨_,rfl,rfl,_,rfl,a_ (λc=>absurd (of_decide_eq_true c) (by decide+kernel)) (λ_=>?_)⟩;refine⟨_,rfl,rfl,_,rfl,a_ (λc=>absurd (of_decide_eq_true c) (by decide+kernel)) (λ_=>?_)⟩;refine⟨_,rfl,rfl,_,rfl,a_ (λc=>absurd (of_decide_eq_true c) (by decide+kernel)) (λ_=>?_)⟩;refine⟨_,rfl,rfl,_,rfl,a_ (λ_=>?_) (λc=>absurd (decide_eq_true rfl) c)⟩;exact⟨_,rfl,a,_,_,_,rfl,rfl,bQ.of ha,aH (j:=1) rfl,c,_,_,_,rfl,rfl,bQ.of hc,aH (j:=3) rfl,q _ H (ay.refl H) rfl C⟩|name=>rename_i y;obtain⟨a,us,rfl,ha,m,us,rfl,⟨rfl,_⟩,n,us,rfl,⟨rfl,hy⟩,d⟩:=k;cases(show us=[]from d);obtain⟨S,kv,tv,e1,e2,e3⟩:=N y (wK O);refine⟨_,rfl,rfl,_,rfl,a_ (λc=>absurd (of_decide_eq_true c) (by decide+kernel)) (λ_=>?_)⟩;refine⟨_,rfl,rfl,_,rfl,a_ (λc=>absurd (of_decide_eq_true c) (by decide+kernel)) (λ_=>?_)⟩;refine⟨_,rfl,rfl,_,rfl,a_ (λc=>absurd (of_decide_eq_true c) (by decide+kernel)) (λ_=>?_)⟩;refine⟨_,rfl,rfl,_,rfl,a_ (λc=>absurd (of_decide_eq_true c) (by decide+kernel)) (λ_=>?_)⟩;refine⟨_,rfl,rfl,_,rfl,a_ (λ_=>?_) (λc=>absurd (decide_eq_true rfl) c)⟩;exact⟨_,rfl,_,rfl,a,_,_,_,rfl,rfl,bQ.of ha,aH (j:=1) rfl,b,_,rfl,(.inl ⟨aE,Sum.inr y, .inl hb,rfl,e1.symm⟩),S,_,_,_,rfl,rfl,bQ.of e2,aH (j:=1) rfl,q _ H (ay.refl H) rfl e3⟩
structure QG(inb:Str->Bool)(B:Str->D)(d:D)(pl:List Int)(r:Str)(e':D)(g:Bool):Prop where
 ex:∃e,goto d pl=some e/\Wf e/\cb inb e= .str r/\EN B e r e' g
 wf:Wf d
 ln:pl.length<100
 rz:Rz (putD d pl e') 100
def Fe(G T1 T2:Addr):Sp:=λvs H Q E=>∃(B:Str->D)(d e':D)(v pw:V)(pl:List Int)(b:Addr)(aE:List (Key×V))(r:Str)(g:Bool),vs=[v,pw, .ref b]/\Rep H d v/\Rep H (QB pl) pw/\H b=some (.dK aE)/\TC H aE B/\QG (g6 aE) B d pl r e' g/\R1 H T1 T2/\(∀(z:V)(H':Hp),ay H H'->(g||cP (putD d pl e'))=false->Rep H' (putD d pl e') z->Q z H')/\(∀H',ay H H'->(g||cP (putD d pl e'))=true->E (.ref G) none H')
theorem kW:aC ["thing","place","book","here","rule"] ["thing","place","book"] (ai ju):=⟨rfl,rfl,rfl,by decide+kernel,rfl,by decide+kernel,by decide+kernel⟩
theorem JF{T1 T2:Addr}(D:Df K mg "stepped" ju ["thing","place","book"])(M:Mg mg t)(S:jM K t.iX)(U:bO P w K mg (c7 P w) "at_place" (3) ["thing","place"] (V0 t.bP))(V:bO P w K mg b_ "rule_of" (1) ["thing","book"] uf)(W:bO P w K mg (c7 P w) "with_at" (105) ["thing","place","new"] (RY t.bP t.cw 100))(T:bO P w K mg (c7 P w) "after_rule" (127) ["thing","rule","book"] (FW t.cw T1 T2)):bO P w K mg (c7 P w) "stepped" (128) ["thing","place","book"] (Fe t.cw T1 T2):=by
 refine D.xV kW (λvs H Q E h=>?_) (λbase f bS A outer s H vs Q E l h=>?_);·obtain⟨B,d,e',v,pw,pl,b,aE,r,g,rfl,_⟩:=h;rfl
 obtain⟨B,d,e',v,pw,pl,b,aE,r,g,rfl,rd,O,hb,Y,ok,Z,q,L⟩:=h;obtain⟨⟨e,p,we,J,ha⟩,R,hl,rz⟩:=ok;refine⟨_,(aj (aR (i:=3) kW.nd rfl (dq rfl) (aV U l.m rfl bc (aa (pv 0) (aa (pv 1) ah)))) (aj (aR (i:=4) kW.nd rfl (dq rfl) (aV V l.m rfl bh (aa (pv 3) (aa (pv 2) ah)))) (aj (bj (aG Ks (pv 4) fO (aJ _)) (ak (cB (G:=(λH'=>E (.ref t.iX) none H')) S M.g_NoStep (aa aN ah) (λpins σ H s e h' I m q=>da I m q))) aK) (ak (aB (aV W l.m rfl bc (aa (pv 0) (aa (pv 1) (aa (aV T l.m rfl bc (aa (pv 3) (aa (pv 4) (aa (pv 2) ah)))) ah))))))))),?_⟩;try dsimp only[iG,cQ]
 refine JK ?_;intro _ _ _ _;refine⟨_,rfl,_,rfl,d,v,pl,pw,rfl,rd,R,O,λe1 u X s1 a N=>?_,λX s1 a=>by rw[p]at a;cases a⟩;rw[p]at a;cases a;refine⟨_,rfl,_,rfl,e,u,b,aE,rfl,N,we,s1 _ _ hb,λH2 s2=>?_⟩;rw[J];refine⟨_,rfl,rfl,_,rfl,a_ (λc=>absurd c (by simp)) (λ_=>?_)⟩;have j:=s1.trans s2;refine⟨_,rfl,_,rfl,_,rfl,_,rfl,_,rfl,B,e,e',u,r,b,aE,g,rfl,N.mono s2,ha,Z.mono j,j _ _ hb,Y.mono j,J,λz C y F r3=>?_,λC y SR=>L C (j.trans y) (by rw[SR];rfl)⟩;have n:=j.trans y;refine⟨d,v,pl,pw,e',z,rfl,rd.mono n,R,O.mono n,r3,hl,λ_=>rz,λu' k o _ x r4=>q u' k (n.trans o) (by rw[F];exact x) r4,(λk o h4=>by rw[p]at h4;cases h4),λk o _ x=>L k (n.trans o) (by rw[F];exact x)⟩
theorem gI:aC ["thing","log","book","here","place","rule"] ["thing","log","book"] (ai lu):=⟨rfl,rfl,rfl,by decide+kernel,rfl,by decide+kernel,by decide+kernel⟩
inductive Out|ok(d:D)|great|dry
noncomputable def Run(inb:Str->Bool)(B:Str->D)(a:Out):Nat->List A5->D->Prop|f,[],d=>(ft inb d=none/\a= .ok d)\/∃r:A5,ft inb d=some r/\((f=0/\a= .dry)\/(0<f/\a= .great/\∃(e':D)(g:Bool),QG inb B d (lJ r.1) r.2 e' g/\(g||cP (putD d (lJ r.1) e'))=true))|f,r::rs,d=>0<f/\∃(e':D)(g:Bool),ft inb d=some r/\QG inb B d (lJ r.1) r.2 e' g/\(g||cP (putD d (lJ r.1) e'))=false/\Run inb B a (f-1) rs (putD d (lJ r.1) e')
def Cg(G e T1 T2:Addr):Sp:=λvs H Q E=>∃(B:Str->D)(d:D)(v:V)(fuel:Nat)(b:Addr)(aE:List (Key×V))(rs:List A5)(a:Out),vs=[v, .int (fuel:Nat), .ref b]/\Rep H d v/\Rz d 60/\H b=some (.dK aE)/\TC H aE B/\Run (g6 aE) B a fuel rs d/\rs.length<=1000/\R1 H T1 T2/\(∀(d':D)(p c:Addr)(us:List V)(u:V)(H':Hp),a= .ok d'->ay H H'->H' p=some (.tup [u, .ref c])->H' c=some (.lst us)->bg H' (rs.map Oa) us->Rep H' d' u->H c=none->Q (.ref p) H')/\(a= .great->∀H',ay H H'->E (.ref G) none H')/\(a= .dry->∀H',ay H H'->E (.ref e) none H')
theorem NJ{H:Hp}{d:D}{v:V}(h:Rep H d v):bg H [d] [v]:=⟨v,[],rfl,h,rfl⟩
theorem nc{d:D}(h:cP d=false):depth d<=40/\aX d<=600:=by have h:(fV d||ja d)=false:=h;rw[Bool.or_eq_false_iff]at h;have h:=h.1;unfold fV at h;simp at h;omega
theorem fB:aC ["thing","fuel","book","here","log","step"] ["thing","fuel","book"] (ai lh):=⟨rfl,rfl,rfl,by decide+kernel,rfl,by decide+kernel,by decide+kernel⟩
theorem Lr{T1 T2:Addr}(D:Df K mg "normal" lh ["thing","fuel","book"])(M:Mg mg t)(X3:jM K t.Xn)(fi:bO P w K mg b_ "first_step" (63) ["thing","book"] (qM 60))(nE:bO P w K mg (c7 P w) "stepped" (128) ["thing","place","book"] (Fe t.cw T1 T2)):bO P w K mg (c7 P w) "normal" (129) ["thing","fuel","book"] (Cg t.cw t.Xn T1 T2):=by
 refine D.xV fB (λvs H Q E h=>?_) (λbase f bS A outer s H vs Q E hr h=>?_);·obtain⟨B,d,v,fuel,b,aE,rs,res,rfl,_⟩:=h;rfl
 obtain⟨B,d,v,fuel,b,aE,rs,res,rfl,rd,rz,hb,hB,aaW,YY,hT,q,qe,qd⟩:=h;refine⟨_,(aj (aR (i:=3) fB.nd rfl (dq rfl) (pv 0)) (aj (aR (i:=4) fB.nd rfl (dq rfl) (gy ah)) (aj (aR (i:=5) fB.nd rfl (dq rfl) (aV fi hr.m rfl bh (aa (pv 3) (aa (pv 2) ah)))) (aj (Cv Dp (aG qV (pv 5) fO (aJ _)) (aj (bj (aG MD (aM aF rfl M.cK bU (aa (pv 4) ah)) (pv 1) (aJ _)) (ak (cB (G:=(λH'=>E (.ref t.Xn) none H')) X3 M.g_Dry (aa aN ah) (λpins σ H s e h' I m q=>da I m q))) aK) (aj (aR (i:=3) fB.nd rfl (dq rfl) (aV nE hr.m rfl bc (aa (pv 3) (aa (aZ aW (pv 5) au (λ_ _=>rfl)) (aa (pv 2) ah))))) (aj (jD (xh PySem.F.plainAttrs_list PySem.F.slot_list_append PySem.F.type_list_append gY (pv 4) (aa (pv 5) ah))) (ak (aR (i:=5) fB.nd rfl (dq rfl) (aV fi hr.m rfl bh (aa (pv 3) (aa (pv 2) ah))))))))) (ak (aB (bJ (aa (pv 3) (aa (pv 4) ah))))))))),?_⟩;try dsimp only[iG,cQ]
 refine aai ?_;intro _ _ _ _ _;refine⟨_,rfl,(gZ rfl),λl Z=>?_⟩;have t1:=av Z (.lst []);have h1:(upd H l (.lst [])) l=some (.lst []):=aq;generalize upd H l (.lst [])=H1 at t1 h1⊢;refine⟨_,rfl,_,rfl,d,v,b,aE,rfl,rd.mono t1,rz,by decide,t1 _ _ hb,λN H2 s2 f2=>?_⟩;let Iw:Nat->L2.St->Hp->Prop:=λm S H'=>∃(F rest:List A5)(k:KM.D)(u N:V)(us:List V)(fl:Nat),S=[some v,some (.int (fuel:Nat)),some (.ref b),some u,some (.ref l),some N]/\m=rest.length/\ay H H'/\Rep H' k u/\Rz k 60/\H' l=some (.lst us)/\bg H' (F.map Oa) us/\Run (g6 aE) B res fl rest k/\F.length+fl=fuel/\rs=F++rest/\FsV H' (ft (g6 aE) k) N;refine⟨Iw,⟨_,[],rs,d,v,N,[],fuel,rfl,rfl,t1.trans s2,rd.mono (t1.trans s2),rz,s2 _ _ h1,rfl,aaW,Nat.zero_add _,rfl,f2⟩,?_⟩;clear t1 h1 s2 f2 rd rz aaW;rintro m S H3⟨F,rest,k,u,N,us,fl,rfl,rfl,n,r3,rz3,h3,X,L,efl,U,O⟩;have Xe:=X.length;rw[cy]at Xe;have lrs:rs.length=F.length+rest.length:=by rw[U,iQ]
 cases x:ft (g6 aE) k with
  |none=>
   rw[x]at O;cases(show N=V.aO from O);refine⟨_,rfl,rfl,_,rfl,a_ (λc=>absurd c (by decide)) (λ_=>?_)⟩;refine⟨_,rfl,_,rfl,(gZ rfl),λp hp=>?_⟩;have tp:=av hp (.tup [u, .ref l]);cases rest with
    |cons r R=>obtain⟨_,e',g,e0,_⟩:=L;rw[x]at e0;cases e0
    |nil=>
     rcases L with⟨_,e0⟩|⟨r,e0,_⟩;·rw[gc]at U;rw[<-U]at X;exact q k p l us u _ e0 (n.trans tp) aq (tp _ _ h3) (X.mono tp) (r3.mono tp) Z
     ·rw[x]at e0;cases e0
  |some r=>
   rw[x]at O;obtain⟨T,_,rfl,hbq,⟨v1,_,rfl,r1,⟨v2,_,rfl,⟨rfl,hy2⟩,rn⟩⟩⟩:=id O;cases(show _=[]from rn);refine⟨_,rfl,rfl,_,rfl,a_ (λ_=>?_) (λc=>absurd rfl c)⟩;have rpl:Rep H3 (QB (lJ r.1)) v1:=by rw[Hy];exact r1
   have hb3:=n _ _ hb;refine⟨λS H'=>∃m',m'<rest.length/\Iw m' S H',λS H' h=>h,?_⟩;refine⟨_,rfl,l,us,rfl, .inl (bI.of h3),_,rfl,_,_,rfl,rfl,_,rfl,a_ (λc=>?_) (λc=>?_)⟩
   ·have c:((fuel:Nat):Int)<=((us.length:Nat):Int):=of_decide_eq_true c;cases rest with
     |cons r' R=>have :=L.1;omega
     |nil=>
      rcases L with⟨e0,_⟩|⟨r',e0,⟨_,er⟩|⟨h0,_⟩⟩;·rw[x]at e0;cases e0
      ·exact⟨by decide,qd er H3 n⟩
      ·omega
   have c:¬((fuel:Nat):Int)<=((us.length:Nat):Int):=of_decide_eq_false (Bool.eq_false_iff.mpr c);refine⟨_,rfl,_,rfl,T,_,_,_,rfl,rfl,bQ.of hbq,aH (j:=0) rfl,_,rfl,?_⟩;cases rest with
    |nil=>
     rcases L with⟨e0,_⟩|⟨r',e0,⟨h0,_⟩|⟨_,ab1,e',g,ok,W⟩⟩;·rw[x]at e0;cases e0
     ·omega
     ·rw[x]at e0;cases e0;exact⟨B,k,e',u,v1,lJ r.1,b,aE,r.2,g,rfl,r3,rpl,hb3,hB.mono n,ok,hT.mono n,(λz C y J r4=>by rw[W]at J;cases J),λC y _=>qe ab1 C (n.trans y)⟩
    |cons r' R=>
     obtain⟨hfl,e',g,e0,ok,J,acJ⟩:=L;rw[x]at e0;cases e0;refine⟨B,k,e',u,v1,lJ r.1,b,aE,r.2,g,rfl,r3,rpl,hb3,hB.mono n,ok,hT.mono n,λz C y _ r4=>?_,λC y W=>by rw[J]at W;cases W⟩;have hg2:cP (putD k (lJ r.1) e')=false:=by rw[Bool.or_eq_false_iff]at J;exact J.2
     obtain⟨k1,k2⟩:=nc hg2;have rz4:Rz (putD k (lJ r.1) e') 60:=⟨ok.rz.wf,by omega,by omega⟩;have h4:=y _ _ h3;have sv4:Rep C (Oa r) (.ref T):=Rep.mono y O;refine⟨_,rfl, .inl ⟨rfl,_,bI.of h4⟩,_,rfl,l,us,_,rfl,rfl,h4,(by rw[sizeLine_eq];omega),?_⟩;have s34:=n.trans y;have abY:H l=none:=Z;have sH:ay H (upd C l (.lst (us++[.ref T]))):=λa o ha=>by rw[aI (aD ha abY)];exact s34 _ _ ha
     refine⟨_,rfl,_,rfl,_,z,b,aE,rfl,r4.vO h4,rz4,by decide,sH _ _ hb,λsv' H6 Y f6=>?_⟩;refine⟨_,by show R.length<R.length+1;omega,F++[r],R,_,z,sv',us++[.ref T],fl-1,rfl,rfl,sH.trans Y,(r4.vO h4).mono Y,rz4,Y _ _ aq,?_,acJ,by rw[iQ,List.length_singleton];omega,by rw[U,List.append_assoc];rfl,f6⟩;rw[List.map_append];refine bg.mono Y ?_;exact((X.mono y).append (NJ sv4)).vO h4
end K62
end
section
namespace L3
open PySem PySem.Spec PyProof.Rows L2 KM
noncomputable def eqB(p:Prop):Bool:=@decide p (Classical.propDecidable p)
theorem mW{p:Prop}(h:p):eqB p=true:=@decide_eq_true p (Classical.propDecidable p) h
theorem eS{p:Prop}(h:¬p):eqB p=false:=@decide_eq_false p (Classical.propDecidable p) h
theorem WU{p:Prop}(h:eqB p=true):p:=@of_decide_eq_true p (Classical.propDecidable p) h
mutual/--no truths within -/noncomputable def N5:D->Bool| .bl _=>false| .tup ds=>DR ds|_=>true noncomputable def DR:List D->Bool|[]=>true|d::ds=>N5 d&&DR ds end
mutual theorem FL{H:Hp}:∀{d e:D}{v:V},Rep H d v->Rep H e v->d=e
 | .aO,e,v,h,h'=>by cases(show v=V.aO from h);cases e with|aO=>rfl|bl b=>cases(show V.aO=V.bl b from h')|int i=>cases(show V.aO=V.int i from h')|str x=>cases(show V.aO=V.str x from h'.1)|tup es=>obtain⟨a,vs,e,_⟩:=h';cases e
 | .bl c,e,v,h,h'=>by cases(show v=V.bl c from h);cases e with|aO=>cases(show V.bl c=V.aO from h')|bl b=>cases(show V.bl c=V.bl b from h');rfl|int i=>cases(show V.bl c=V.int i from h')|str x=>cases(show V.bl c=V.str x from h'.1)|tup es=>obtain⟨a,vs,e,_⟩:=h';cases e
 | .int c,e,v,h,h'=>by cases(show v=V.int c from h);cases e with|aO=>cases(show V.int c=V.aO from h')|bl b=>cases(show V.int c=V.bl b from h')|int i=>cases(show V.int c=V.int i from h');rfl|str x=>cases(show V.int c=V.str x from h'.1)|tup es=>obtain⟨a,vs,e,_⟩:=h';cases e
 | .str c,e,v,h,h'=>by cases(show v=V.str c from h.1);cases e with|aO=>cases(show V.str c=V.aO from h')|bl b=>cases(show V.str c=V.bl b from h')|int i=>cases(show V.str c=V.int i from h')|str x=>cases(show V.str c=V.str x from h'.1);rfl|tup es=>obtain⟨a,vs,e,_⟩:=h';cases e
 | .tup ds,e,v,h,h'=>by obtain⟨a,vs,rfl,ha,r⟩:=h;cases e with|aO=>cases(show V.ref a=V.aO from h')|bl b=>cases(show V.ref a=V.bl b from h')|int i=>cases(show V.ref a=V.int i from h')|str x=>cases(show V.ref a=V.str x from h'.1)|tup es=>obtain⟨a',vs',e,ha',r'⟩:=h';cases e;rw[ha]at ha';cases ha';rw[CL r r']theorem CL{H:Hp}:∀{ds es:List D}{vs:List V},bg H ds vs->bg H es vs->ds=es
 |[],es,vs,h,h'=>by cases(show vs=[]from h);cases es with|nil=>rfl|cons e es=>obtain⟨v,r,z,_⟩:=h';cases z
 |d::ds,es,vs,h,h'=>by obtain⟨v,r,rfl,q,t⟩:=h;cases es with|nil=>cases(show v::r=[]from h')|cons e es=>obtain⟨v',r',z,q',t'⟩:=h';cases z;rw[FL q q',CL t t']end
theorem N8(ds es:List D):((List.range (min ds.length es.length)).all (λj=>eqB (ds[j]?=es[j]?))&&(ds.length==es.length))=eqB (D.tup ds=D.tup es):=by
 by_cases h:ds=es;·subst h;rw[mW rfl,bD];exact⟨List.all_eq_true.mpr λj _=>mW rfl,by simp⟩
 ·rw[eS (λz=>h (by injection z))];by_cases hl:ds.length=es.length
  ·have :¬(List.range (min ds.length es.length)).all (λj=>eqB (ds[j]?=es[j]?))=true:=λz=>h (List.ext_getElem? λi=>by
    by_cases hi:i<ds.length;·exact WU (List.all_eq_true.mp z i (List.mem_range.mpr (by lia)))
    ·rw[List.getElem?_eq_none (by lia),List.getElem?_eq_none (by lia)]);rw[Bool.eq_false_iff.mpr this,Bool.false_and]
  ·have :(ds.length==es.length)=false:=by simpa using hl
   rw[this,Bool.and_false]
section
variable{X:Cx}{pins:List (Addr×Obj)}{σ:L2.St}{H:Hp}{s:Shared}
mutual theorem Dx(I:Inv X pins σ H s):∀(d e:D)(A:Around)(v u:V)(a b:Value),Rep H d v->Rep H e u->L2.RelV v a->L2.RelV u b->N5 d=true->N5 e=true->A.units+depth d<cLine->SeqAt.EqAt A s a b (eqB (d=e))
 | .aO,e,A,v,u,a,b,r,r',k,k',n,n',hu=>by cases(show v=V.aO from r);cases(show a=Value.none from k);cases e with|aO=>cases(show u=V.aO from r');cases(show b=Value.none from k');rw[mW rfl];exact SeqAt.EqAt.same _|bl c=>cases n'|int i=>cases(show u=V.int i from r');obtain⟨t,rfl⟩:=k';rw[eS (λz=>by cases z)];exact SeqAt.EqAt.none_int i t|str x=>cases(show u=V.str x from r'.1);obtain⟨t,rfl⟩:=k';rw[eS (λz=>by cases z)];exact SeqAt.EqAt.none_str x t|tup es=>obtain⟨p,us,rfl,hp,rs⟩:=r';cases(show b=Value.ref p from k');obtain⟨its,rv,pt,_⟩:=I.tuple (bQ.of (K:=X.K) hp);rw[eS (λz=>by cases z)];exact SeqAt.EqAt.none_tuple pt (by lia)
 | .bl _,_,_,_,_,_,_,_,_,_,_,n,_,_=>by cases n
 | .int c,e,A,v,u,a,b,r,r',k,k',n,n',hu=>by
  cases(show v=V.int c from r);obtain⟨t0,rfl⟩:=k;cases e with
   |aO=>cases(show u=V.aO from r');cases(show b=Value.none from k');rw[eS (λz=>by cases z)];exact SeqAt.EqAt.int_none c t0
   |bl c=>cases n'
   |int i=>
    cases(show u=V.int i from r');obtain⟨t,rfl⟩:=k';have :eqB (D.int c=D.int i)=(c==i):=by
     by_cases h:c=i;·subst h;rw[mW rfl];simp
     ·rw[eS (λz=>h (by injection z))];simp[h]
    rw[this];exact SeqAt.EqAt.int_int c t0 i t
   |str x=>cases(show u=V.str x from r'.1);obtain⟨t,rfl⟩:=k';rw[eS (λz=>by cases z)];exact SeqAt.EqAt.int_str c t0 x t
   |tup es=>obtain⟨p,us,rfl,hp,rs⟩:=r';cases(show b=Value.ref p from k');obtain⟨its,rv,pt,_⟩:=I.tuple (bQ.of (K:=X.K) hp);rw[eS (λz=>by cases z)];exact SeqAt.EqAt.int_tuple c t0 pt (by lia)
 | .str c,e,A,v,u,a,b,r,r',k,k',n,n',hu=>by
  cases(show v=V.str c from r.1);obtain⟨t0,rfl⟩:=k;cases e with
   |aO=>cases(show u=V.aO from r');cases(show b=Value.none from k');rw[eS (λz=>by cases z)];exact SeqAt.EqAt.str_none c t0
   |bl c=>cases n'
   |int i=>cases(show u=V.int i from r');obtain⟨t,rfl⟩:=k';rw[eS (λz=>by cases z)];exact SeqAt.EqAt.str_int c t0 i t
   |str x=>
    cases(show u=V.str x from r'.1);obtain⟨t,rfl⟩:=k';have :eqB (D.str c=D.str x)=(c==x):=by
     by_cases h:c=x;·subst h;rw[mW rfl];simp
     ·rw[eS (λz=>h (by injection z))];simp[h]
    rw[this];exact SeqAt.EqAt.str_str c t0 x t
   |tup es=>obtain⟨p,us,rfl,hp,rs⟩:=r';cases(show b=Value.ref p from k');obtain⟨its,rv,pt,_⟩:=I.tuple (bQ.of (K:=X.K) hp);rw[eS (λz=>by cases z)];exact SeqAt.EqAt.str_tuple c t0 pt (by lia)
 | .tup ds,e,A,v,u,a,b,r,r',k,k',n,n',hu=>by
  obtain⟨q,vs,rfl,hq,rd⟩:=id r;cases(show a=Value.ref q from k);obtain⟨its,rv,pt,_⟩:=I.tuple (bQ.of (K:=X.K) hq);have RM:A.units<cLine:=by lia
  cases e with
   |aO=>cases(show u=V.aO from r');cases(show b=Value.none from k');rw[eS (λz=>by cases z)];exact SeqAt.EqAt.tuple_none pt RM
   |bl c=>cases n'
   |int i=>cases(show u=V.int i from r');obtain⟨t,rfl⟩:=k';rw[eS (λz=>by cases z)];exact SeqAt.EqAt.tuple_int i t pt RM
   |str x=>cases(show u=V.str x from r'.1);obtain⟨t,rfl⟩:=k';rw[eS (λz=>by cases z)];exact SeqAt.EqAt.tuple_str x t pt RM
   |tup es=>
    obtain⟨p,us,rfl,hp,re⟩:=id r';cases(show b=Value.ref p from k');obtain⟨nu,Nw,VO,_⟩:=I.tuple (bQ.of (K:=X.K) hp);by_cases RD:q=p;·subst RD;rw[mW (FL r r')];exact SeqAt.EqAt.same _
    ·have l1:=rv.length;have l2:=Nw.length;have l3:=rd.length;have l4:=re.length;have hd:depth (.tup ds)=1+aw ds:=by simp[depth]
     rw[<-N8];have s1:its.toArray.size=ds.length:=by rw[cE];lia
     have s2:nu.toArray.size=es.length:=by rw[cE];lia
     have :=SeqAt.EqAt.of_refs RD (SeqAt.RcAt.tuples (A:=A) pt VO RM (e:=λj=>eqB (ds[j]?=es[j]?)) λj h1 h2=>by have :=wm I ds es A.in1 vs us its nu rd re rv Nw n n' (by show A.units+1+aw ds<cLine;lia) j (by simpa using h1) (by simpa using h2);simpa using this);rw[s1,s2]at this;exact this theorem wm(I:Inv X pins σ H s):∀(ds es:List D)(A:Around)(vs us:List V)(its nu:List Value),bg H ds vs->bg H es us->Vals vs its->Vals us nu->DR ds=true->DR es=true->A.units+aw ds<cLine->∀(j:Nat)(h1:j<its.length)(h2:j<nu.length),SeqAt.EqAt A s its[j] nu[j] (eqB (ds[j]?=es[j]?))
 |[],es,A,vs,us,its,nu,r,r',k,k',n,n',hu,j,h1,h2=>by cases(show vs=[]from r);cases k;exact absurd h1 (Nat.not_lt_zero _)
 |d::ds,[],A,vs,us,its,nu,r,r',k,k',n,n',hu,j,h1,h2=>by cases(show us=[]from r');cases k';exact absurd h2 (Nat.not_lt_zero _)
 |d::ds,e::es,A,vs,us,its,nu,r,r',k,k',n,n',hu,j,h1,h2=>by
  obtain⟨v,vs,rfl,q,t⟩:=r;obtain⟨u,us,rfl,q',t'⟩:=r';have n:(N5 d&&DR ds)=true:=n;have n':(N5 e&&DR es)=true:=n';rw[bD]at n n';have hd:aw (d::ds)=max (depth d) (aw ds):=by simp[aw]
  cases k with
   |cons k1 k2=>
    cases k' with
     |cons k1' k2'=>
      cases j with
       |zero=>
        have :=Dx I d e A v u _ _ q q' k1 k1' n.1 n'.1 (by lia);have e1:eqB ((d::ds)[0]?=(e::es)[0]?)=eqB (d=e):=by
         by_cases h:d=e;·rw[mW h,mW (by rw[h];rfl)]
         ·rw[eS h,eS (λz=>h (by simpa using z))]
        rw[e1];exact this
       |succ j=>exact wm I ds es A vs us _ _ t t' k2 k2' n.2 n'.2 (by lia) j (by simpa using h1) (by simpa using h2)end
end
inductive DX|d(x:D)|tup(xs:List DX)|lst(xs:List DX)
mutual noncomputable def M8(H:Hp):DX->V->Prop| .d x,v=>Rep H x v| .tup xs,v=>∃a vs,v= .ref a/\H a=some (.tup vs)/\fY H xs vs| .lst xs,v=>∃a vs,v= .ref a/\H a=some (.lst vs)/\fY H xs vs noncomputable def fY(H:Hp):List DX->List V->Prop|[],vs=>vs=[]|x::xs,vs=>∃v r,vs=v::r/\M8 H x v/\fY H xs r end
mutual noncomputable def nbX:DX->Bool| .d x=>N5 x| .tup xs=>AB xs| .lst xs=>AB xs noncomputable def AB:List DX->Bool|[]=>true|x::xs=>nbX x&&AB xs end
mutual noncomputable def Py:DX->Nat| .d x=>depth x| .tup xs=>1+i5 xs| .lst xs=>1+i5 xs noncomputable def i5:List DX->Nat|[]=>0|x::xs=>max (Py x) (i5 xs)end
theorem fY.length{H:Hp}:∀{xs:List DX}{vs:List V},fY H xs vs->vs.length=xs.length|[],vs,h=>by rw[show vs=[]from h];rfl|x::xs,_,⟨v,r,e,_,h⟩=>by rw[e,dY,dY,fY.length h]
section
variable{X:Cx}{pins:List (Addr×Obj)}{σ:L2.St}{H:Hp}{s:Shared}
mutual theorem eqX(I:Inv X pins σ H s):∀(x:DX)(A:Around)(v u:V)(a b:Value),M8 H x v->M8 H x u->L2.RelV v a->L2.RelV u b->nbX x=true->A.units+Py x<cLine->SeqAt.EqAt A s a b true
 | .d x,A,v,u,a,b,r,r',k,k',n,hu=>by have :=Dx I x x A v u a b r r' k k' n n hu;rw[mW rfl]at this;exact this
 | .tup xs,A,v,u,a,b,r,r',k,k',n,hu=>by
  obtain⟨q,vs,rfl,hq,rd⟩:=r;obtain⟨p,us,rfl,hp,re⟩:=r';cases(show a=Value.ref q from k);cases(show b=Value.ref p from k');obtain⟨its,rv,pt,_⟩:=I.tuple (bQ.of (K:=X.K) hq);obtain⟨nu,Nw,VO,_⟩:=I.tuple (bQ.of (K:=X.K) hp);have hd:Py (.tup xs)=1+i5 xs:=by simp[Py]
  by_cases RD:q=p;·subst RD;exact SeqAt.EqAt.same _
  ·have l1:=rv.length;have l2:=Nw.length;have l3:=fY.length rd;have l4:=fY.length re;have :=SeqAt.EqAt.of_refs RD (SeqAt.RcAt.tuples (A:=A) pt VO (by lia) (e:=λ_=>true) λj h1 h2=>by have :=OG I xs A.in1 vs us its nu rd re rv Nw n (by show A.units+1+i5 xs<cLine;lia) j (by simpa using h1) (by simpa using h2);simpa using this);have e:((List.range (min its.toArray.size nu.toArray.size)).all (λ_=>true)&&its.toArray.size==nu.toArray.size)=true:=by rw[bD];refine⟨by simp,?_⟩;simp only[cE,beq_iff_eq];lia
   rw[e]at this;exact this
 | .lst xs,A,v,u,a,b,r,r',k,k',n,hu=>by
  obtain⟨q,vs,rfl,hq,rd⟩:=r;obtain⟨p,us,rfl,hp,re⟩:=r';cases(show a=Value.ref q from k);cases(show b=Value.ref p from k');obtain⟨its,rv,pt,_⟩:=I.list (bI.of (K:=X.K) hq);obtain⟨nu,Nw,VO,_⟩:=I.list (bI.of (K:=X.K) hp);have hd:Py (.lst xs)=1+i5 xs:=by simp[Py]
  by_cases RD:q=p;·subst RD;exact SeqAt.EqAt.same _
  ·have l1:=rv.length;have l2:=Nw.length;have l3:=fY.length rd;have l4:=fY.length re;have :=SeqAt.EqAt.of_refs RD (SeqAt.RcAt.lists (A:=A) pt.isList VO.isList (by simp only[cE];lia) (by lia) (e:=λ_=>true) λj h1 h2=>by have :=OG I xs A.in1 vs us its nu rd re rv Nw n (by show A.units+1+i5 xs<cLine;lia) j (by simpa using h1) (by simpa using h2);simpa using this);have e:((List.range its.toArray.size).all (λ_=>true))=true:=by simp
   rw[e]at this;exact this theorem OG(I:Inv X pins σ H s):∀(xs:List DX)(A:Around)(vs us:List V)(its nu:List Value),fY H xs vs->fY H xs us->Vals vs its->Vals us nu->AB xs=true->A.units+i5 xs<cLine->∀(j:Nat)(h1:j<its.length)(h2:j<nu.length),SeqAt.EqAt A s its[j] nu[j] true
 |[],A,vs,us,its,nu,r,r',k,k',n,hu,j,h1,h2=>by cases(show vs=[]from r);cases k;exact absurd h1 (Nat.not_lt_zero _)
 |x::xs,A,vs,us,its,nu,r,r',k,k',n,hu,j,h1,h2=>by
  obtain⟨v,vs,rfl,q,t⟩:=r;obtain⟨u,us,rfl,q',t'⟩:=r';have n:(nbX x&&AB xs)=true:=n;rw[bD]at n;have hd:i5 (x::xs)=max (Py x) (i5 xs):=by simp[i5]
  cases k with|cons k1 k2=>cases k' with|cons k1' k2'=>cases j with|zero=>exact eqX I x A v u _ _ q q' k1 k1' n.1 (by lia)|succ j=>exact OG I xs A vs us _ _ t t' k2 k2' n.2 (by lia) j (by simpa using h1) (by simpa using h2)end
end
noncomputable def Ku(z:Bool):R2:=λx y H Q=>∃xs:List DX,M8 H (.tup xs) x/\M8 H (.tup xs) y/\AB xs=true/\i5 xs<=80/\Q (.bl z) H
theorem Na{X:Cx}(l:X.A.units+84<cLine):mf X (compareOp .Eq) (Ku true):=by
 intro pins s σ H x y v u Q I i k h;obtain⟨xs,⟨q,vs,rfl,hq,rd⟩,⟨p,us,rfl,d,a⟩,n,hd,h⟩:=h;cases i;cases k;obtain⟨its,b,pt,_⟩:=I.tuple (bQ.of (K:=X.K) hq);obtain⟨f,c,g,_⟩:=I.tuple (bQ.of (K:=X.K) d);have m:=b.length;have o:=c.length;have r:=fY.length rd;have t:=fY.length a;refine SeqAt.eq_tupleAt pt g (e:=λ_=>true) (by lia) (λj h1 h2=>?_) ⟨.bl true,H,I,?_,h⟩;·have :=OG I xs X.A.in1 vs us its f rd a b c n (by show X.A.units+1+i5 xs<cLine;lia) j (by simpa using h1) (by simpa using h2);simpa using this
 ·show Value.bool _=Value.bool true;congr 1;rw[bD];refine⟨by simp,?_⟩;simp only[cE,beq_iff_eq];lia
section
variable{X:Cx}{tg:Expr}
theorem X_{l:Expr}{a b:TI}(ha:PI X tg l a)(hb:PI X tg l b):PI X tg l (λσ H R=>a σ H R\/b σ H R):=by
 intro pins s σ H R I h;rcases h with h|h;·exact ha pins s σ H R I h
 ·exact hb pins s σ H R I h
end
def Wlk(J:It)(H:Hp)(us:List V):Prop:=(∀i H',ay H H'->i<us.length->J.go i H'/\∀x a,J.vB i H' x a->a=H'/\us[i]?=some x)/\∀H',ay H H'->J.stop us.length H'
theorem LU{K:PySem.W.Frag}{H:Hp}{a:Addr}{us:List V}(h:H a=some (.lst us)):Wlk (WZ K a) H us:=by refine⟨λi H' s hi=>⟨⟨us,us[i],bI.of (s _ _ h),dR hi⟩,?_⟩,λH' s=>⟨us,bI.of (s _ _ h),bf _⟩⟩;rintro x c⟨rfl,b⟩;exact⟨rfl,b us (bI.of (s _ _ h))⟩
theorem Qe{K:PySem.W.Frag}{H:Hp}{a:Addr}{us:List V}(h:H a=some (.tup us)):Wlk (Itt K a) H us:=by refine⟨λi H' s hi=>⟨⟨us,us[i],bQ.of (s _ _ h),dR hi⟩,?_⟩,λH' s=>⟨us,bQ.of (s _ _ h),bf _⟩⟩;rintro x c⟨rfl,b⟩;exact⟨rfl,b us (bQ.of (s _ _ h))⟩
theorem Qh{J:It}{g:TG}{tb:TS}{D:Ends}{σ:L2.St}{H:Hp}{us:List V}(W:Wlk J H us)(Pv:Nat->L2.St->Hp->Prop)(f:Pv 0 σ H)(c:∀i a H',Pv i a H'->ay H H')(h:∀i a H' x,us[i]?=some x->Pv i a H'->g x a H' λd b=>tb {D with nx:=Pv (i+1),ct:=Pv (i+1),bk:=D.nx} d b)(hd:∀a H',Pv us.length a H'->D.nx a H'):∃W:Nat->Nat->L2.St->Hp->Prop,(∃m,W 0 m σ H)/\∀i m σ H,W i m σ H->(J.stop i H/\D.nx σ H)\/(J.go i H/\∃N:L2.St->Hp->Prop,(∀a H',N a H'->∃e,e<m/\W (i+1) e a H')/\∀x H',J.vB i H x H'->g x σ H' λd b=>tb {D with nx:=N,ct:=N,bk:=D.nx} d b):=iU us.length Pv f (λi a H' hi p=>⟨(W.1 i H' (c i a H' p) hi).1,λx b k=>by obtain⟨rfl,j⟩:=(W.1 i H' (c i a H' p) hi).2 x b k;exact h i a _ x j p⟩) λa H' p=>⟨W.2 H' (c _ a H' p),hd a H' p⟩
theorem YQ{K:PySem.W.Frag}{b:TE}{σ:L2.St}{H:Hp}{R:It->Hp->Prop}{a:Addr}{us:List V}(h:H a=some (.lst us)\/H a=some (.tup us))(ht:∀Q:VK,Q (.ref a) H->b σ H Q)(k:∀J,Wlk J H us->R J H):RK K b σ H R\/Yl K b σ H R:=by
 rcases h with h|h;·exact .inl (ht _ ⟨a,rfl,⟨_,bI.of h⟩,k _ (LU h)⟩)
 ·exact .inr (ht _ ⟨a,rfl,⟨_,bQ.of h⟩,k _ (Qe h)⟩)
end L3
end
section
namespace K62
open PySem L2 L3 KM PyProof.Rows
seal L2.PE L2.PS L2.gR L2.PT L2.PW L2.PA L2.PG L2.zI L2.PI L2.PC L2.PO L2.E_ L2.PK L3.zD L3.PH L3.PB
variable{P:Program}{w:World}{K:PySem.W.Frag}{mg:Str->Option Value}{base:Heap}{t:wQ}
theorem Ax:∀(pl:List Int)(d g:D),Wf d->goto d pl=some g->Wf g/\pl.length+depth g<=depth d
 |[],d,g,h,z=>by rw[goto]at z;cases z;exact⟨h,by simp⟩
 |i::is,d,g,h,z=>by
  cases c:dM d i with
   |none=>rw[gP c]at z;cases z
   |some p=>
    rw[fC c]at z;obtain⟨a,b⟩:=Ax is p g (lB h c) z;have :depth p<depth d:=by
     obtain⟨k,h⟩:=h;obtain⟨x,ps,rfl⟩:=cz h;unfold dM at c;split at c;·exact(i_ h c).2
     ·cases c
    exact⟨a,by rw[dY];omega⟩
theorem La{e g:D}:∀(pl:List Int)(d:D),Wf d->goto d pl=some g->depth (putD d pl e)<=depth d+(pl.length+depth e-depth d)|[],d,_,_=>by rw[putD,List.length_nil];omega|i::is,d,⟨k,h⟩,z=>by obtain⟨x,ps,rfl⟩:=cz h;cases a:dM (.tup (.str x::ps)) i with|none=>rw[gP a]at z;cases z|some p=>rw[fC a]at z;rw[vv a];obtain⟨l,j,b⟩:=jG a;have a2:=La (e:=e) is p (lB ⟨k,h⟩ a) z;have c:=jv b;have f:=wV (q:=putD p is e) (m:=aw ps+(is.length+depth e-aw ps)) (by omega) (ps:=ps) (i:=i.toNat) (by omega);rw[dY];simp only[depth,aw];omega
theorem g_{k:Bool}{x s:Str}{ps:List D}(cs:List Nat)(a:du x= .str s)(hc:s.cps.toList=cs)(h:bz ar k (.tup (.str x::ps))=true):dZ x=k/\eK ar cs ps=true:=by obtain⟨s',e1,e2,e3,_⟩:=bF h;rw[a]at e1;cases e1;rw[hc]at e3;exact⟨e2,e3⟩
theorem FH{k:Bool}{a b:D}(h:bz ar k (.tup [.str "app",a,b])=true):k=false/\bz ar false a=true/\bz ar false b=true:=by obtain⟨e2,e3⟩:=g_ [116,116] (s:="tt") (by decide+kernel) (by decide+kernel) h;rw[show dZ "app"=false by decide+kernel]at e2;simp[eK]at e3;exact⟨e2.symm,e3.1,e3.2⟩
theorem G3{k:Bool}{a b:D}(h:bz ar k (.tup [.str "fun",a,b])=true):bz ar true a=true/\bz ar false b=true:=by obtain⟨e2,e3⟩:=g_ [107,116] (s:="kt") (by decide+kernel) (by decide+kernel) h;simp[eK]at e3;exact⟨e3.1,e3.2⟩
theorem M5{k:Bool}{a:D}(h:bz ar k (.tup [.str "next",a])=true):bz ar false a=true:=by obtain⟨e2,e3⟩:=g_ [116] (s:="t") (by decide+kernel) (by decide+kernel) h;simp[eK]at e3;exact e3
theorem nM{k:Bool}{a:D}(h:bz ar k (.tup [.str "first",a])=true):k=false/\bz ar false a=true:=by obtain⟨e2,e3⟩:=g_ [116] (s:="t") (by decide+kernel) (by decide+kernel) h;rw[show dZ "first"=false by decide+kernel]at e2;simp[eK]at e3;exact⟨e2.symm,e3⟩
theorem k6{k:Bool}{a:D}(h:bz ar k (.tup [.str "second",a])=true):k=false/\bz ar false a=true:=by obtain⟨e2,e3⟩:=g_ [116] (s:="t") (by decide+kernel) (by decide+kernel) h;rw[show dZ "second"=false by decide+kernel]at e2;simp[eK]at e3;exact⟨e2.symm,e3⟩
theorem CA{k:Bool}{a b c:D}(h:bz ar k (.tup [.str "pair",a,b,c])=true):bz ar false b=true/\bz ar false c=true:=by obtain⟨e2,e3⟩:=g_ [107,116,116] (s:="ktt") (by decide+kernel) (by decide+kernel) h;simp[eK]at e3;exact⟨e3.2.1,e3.2.2⟩
theorem JB{k:Bool}{a b c:D}(h:bz ar k (.tup [.str "carry",a,b,c])=true):k=false/\bz ar false b=true/\bz ar false c=true:=by obtain⟨e2,e3⟩:=g_ [107,116,116] (s:="ktt") (by decide+kernel) (by decide+kernel) h;rw[show dZ "carry"=false by decide+kernel]at e2;simp[eK]at e3;exact⟨e2.symm,e3.2.1,e3.2.2⟩
theorem yk{k:Bool}{a b c d:D}(h:bz ar k (.tup [.str "rec",a,b,c,d])=true):k=false/\bz ar true a=true/\bz ar false b=true/\bz ar false c=true/\bz ar false d=true:=by obtain⟨e2,e3⟩:=g_ [107,116,116,116] (s:="kttt") (by decide+kernel) (by decide+kernel) h;rw[show dZ "rec"=false by decide+kernel]at e2;simp[eK]at e3;exact⟨e2.symm,e3.1,e3.2.1,e3.2.2.1,e3.2.2.2⟩
theorem MF{k:Bool}{a:D}(h:bz ar k (.tup [.str "name",a])=true):k=false:=by obtain⟨e2,e3⟩:=g_ [119] (s:="w") (by decide+kernel) (by decide+kernel) h;rw[show dZ "name"=false by decide+kernel]at e2;exact e2.symm
def Zj(inb:Str->Bool)(B:Str->D):Prop:=∀y,inb y=true->bz ar false (B y)=true/\depth (B y)<=16
theorem gm{x:Str}{ds:List D}{d:D}(h:d∈ds):depth d<depth (.tup (.str x::ds)):=by
 have e:∀(l:List D),d∈l->depth d<=aw l:=λl=>by
  induction l with
   |nil=>intro h;cases h
   |cons a l b=>
    intro h;rw[aw];rcases List.mem_cons.mp h with rfl|h;·exact Nat.le_max_left _ _
    ·exact cq (b h) (Nat.le_max_right _ _)
 have c:=e ds h;rw[depth,aw];exact Nat.lt_of_le_of_lt c (Nat.lt_of_le_of_lt (Nat.le_max_right _ _) (by rw[Nat.add_comm];exact Nat.lt_succ_self _))
theorem m7{x:Str}{ds:List D}{m:Nat}(h:∀d∈ds,depth d<=m):depth (.tup (.str x::ds))<=1+m:=by
 have c:∀(l:List D),(∀d∈l,depth d<=m)->aw l<=m:=λl=>by induction l with|nil=>intro _;exact dA _|cons a l b=>intro h;rw[aw];exact Nat.max_le.mpr ⟨h a cj,b λd hd=>h d (cF _ hd)⟩
 rw[depth,aw];exact Nat.add_le_add_left (Nat.max_le.mpr ⟨dA _,c ds h⟩) 1
theorem IZ{inb:Str->Bool}{B:Str->D}{e e':D}{r:Str}{g k:Bool}(E:Zj inb B)(h:EN B e r e' g)(wf:bz ar k e=true)(F:cb inb e= .str r):bz ar k e'=true/\(depth e'+3<=2*depth e\/depth e'<=depth e+1\/depth e'<=16):=by
 have f:∀{d:D},depth d<depth e->(depth d+3<=2*depth e\/depth d<=depth e+1\/depth d<=16):=λh=> .inr (.inl (by lia));cases h with
  |fn I J C A rz=>rename_i c bd o;obtain⟨rfl,w1,w2⟩:=FH wf;obtain⟨j,i⟩:=G3 w1;obtain⟨G,_,H,_⟩:=fz (o:=o) (at_:=0) (Int.le_refl 0) w2 A 58 0 bd false (Int.le_refl 0) C i;refine⟨G,?_⟩;have a1:depth o<_:=gm (x:="app") (ds:=[.tup [.str "fun",c,bd],o]) (by simp);have a2:depth bd<_:=gm (x:="fun") (ds:=[c,bd]) (by simp);have a3:depth (.tup [.str "fun",c,bd])<_:=gm (x:="app") (ds:=[.tup [.str "fun",c,bd],o]) (by simp);exact .inl (cq (Nat.add_le_add_right H 3) (by lia))
  |zero=>obtain⟨rfl,w0,w1,w2,j⟩:=yk wf;exact⟨w1,f (gm (by simp))⟩
  |O5=>obtain⟨rfl,w1,w2⟩:=JB wf;exact⟨w1,f (gm (by simp))⟩
  |next=>
   rename_i k b s n;obtain⟨rfl,w0,w1,w2,j⟩:=yk wf;have i:=M5 j;refine⟨xJ (xJ w2 i) (UI w0 w1 w2 i),?_⟩;have q:depth k<_:=gm (x:="rec") (ds:=[k,b,s, .tup [.str "next",n]]) (by simp);have u:depth b<_:=gm (x:="rec") (ds:=[k,b,s, .tup [.str "next",n]]) (by simp);have l:depth s<_:=gm (x:="rec") (ds:=[k,b,s, .tup [.str "next",n]]) (by simp);have v:depth (.tup [.str "next",n])<_:=gm (x:="rec") (ds:=[k,b,s, .tup [.str "next",n]]) (by simp);have z:depth n<_:=gm (x:="next") (ds:=[n]) (by simp);have p:depth n<_:=Nat.lt_trans z v;have up:∀{m:Nat},m<depth (.tup [.str "rec",k,b,s, .tup [.str "next",n]])->m<=depth (.tup [.str "rec",k,b,s, .tup [.str "next",n]])-1:=λh=>by lia
   have c1:depth (.tup [.str "app",s,n])<=depth (.tup [.str "rec",k,b,s, .tup [.str "next",n]]):=cq (m7 λd hd=>by
    simp only[gF,jr,or_false]at hd;rcases hd with rfl|rfl;·exact up l
    ·exact up p) (by lia);have c2:depth (.tup [.str "rec",k,b,s,n])<=depth (.tup [.str "rec",k,b,s, .tup [.str "next",n]]):=cq (m7 λd hd=>by
    simp only[gF,jr,or_false]at hd;rcases hd with rfl|rfl|rfl|rfl;·exact up q
    ·exact up u
    ·exact up l
    ·exact up p) (by lia);refine .inr (.inl (cq (m7 (m:=depth (.tup [.str "rec",k,b,s, .tup [.str "next",n]])) λd hd=>?_) (by lia)));simp only[gF,jr,or_false]at hd;rcases hd with rfl|rfl;·exact c1
   ·exact c2
  |first=>obtain⟨rfl,w0⟩:=nM wf;rename_i c y;have a1:depth (.tup [.str "pair",c,e',y])<_:=gm (x:="first") (ds:=[.tup [.str "pair",c,e',y]]) (by simp);exact⟨(CA w0).1,f (Nat.lt_trans (gm (by simp)) a1)⟩
  |second=>obtain⟨rfl,w0⟩:=k6 wf;rename_i c x;have a1:depth (.tup [.str "pair",c,x,e'])<_:=gm (x:="second") (ds:=[.tup [.str "pair",c,x,e']]) (by simp);exact⟨(CA w0).2,f (Nat.lt_trans (gm (by simp)) a1)⟩
  |name=>rename_i y;cases MF wf;obtain⟨a,b⟩:=E y (wK F);exact⟨a, .inr (.inr b)⟩
theorem ia{k:Bool}{x s:Str}{ps:List D}(n:Nat)(a:du x= .str s)(hc:s.cps.toList.length=n)(h:bz ar k (.tup (.str x::ps))=true):ps.length=n:=by obtain⟨s',e1,_,_,_,b,_⟩:=bF h;rw[a]at e1;cases e1;omega
theorem Ze{ps:List D}(h:ps.length=2):∃a b,ps=[a,b]:=by match ps,h with|[a,b],_=>exact⟨a,b,rfl⟩
theorem DI{ps:List D}(h:ps.length=3):∃a b c,ps=[a,b,c]:=by match ps,h with|[a,b,c],_=>exact⟨a,b,c,rfl⟩
theorem four{ps:List D}(h:ps.length=4):∃a b c d,ps=[a,b,c,d]:=by match ps,h with|[a,b,c,d],_=>exact⟨a,b,c,d,rfl⟩
theorem V9{inb:Str->Bool}{B:Str->D}{e:D}{r:Str}{k:Bool}(wf:bz ar k e=true)(hd:depth e<=45)(f:cb inb e= .str r):∃p:D×Bool,EN B e r p.1 p.2:=by
 obtain⟨x,ps,rfl⟩:=cz wf;have f:iI inb x ps= .str r:=f;unfold iI at f;by_cases c1:x="name"
 ·subst c1;rw[if_pos rfl]at f;obtain⟨y,rfl⟩:=xo wf;have f:(if inb y=true then V.str "name"else .aO)= .str r:=f;split at f;·cases f;exact⟨(B y,false), .name⟩
  ·cases f
 rw[if_neg c1]at f;by_cases c2:x="app"
 ·subst c2;rw[if_pos rfl]at f;obtain⟨a,b,rfl⟩:=Ze (ia 2 (s:="tt") (by decide+kernel) (by decide+kernel) wf);obtain⟨_,w1,w2⟩:=FH wf;obtain⟨y,i,rfl⟩:=cz w1;have f:(if y="fun"then V.str "fun"else .aO)= .str r:=f;split at f
  ·rename_i g;subst g;cases f;obtain⟨v,bd,rfl⟩:=Ze (ia 2 (s:="kt") (by decide+kernel) (by decide+kernel) w1);obtain⟨A,h⟩:=G3 w1;have h1:depth bd<45:=by simp only[depth,aw]at hd;omega
   have h2:depth b<45:=by simp only[depth,aw]at hd;omega
   obtain⟨u,_,z,_⟩:=fz (o:=b) (at_:=0) (Int.le_refl 0) w2 (by omega) 58 0 bd false (Int.le_refl 0) (by omega) h;exact⟨(vV b 0 bd,cP (vV b 0 bd)), .fn ⟨_,h⟩ ⟨_,w2⟩ (by omega) (by omega) ⟨⟨_,u⟩,by show depth (kX (kS b 0) 58 0 bd)<100;omega,dA _⟩⟩
  ·cases f
 rw[if_neg c2]at f;by_cases j:x="carry"
 ·subst j;rw[if_pos rfl]at f;obtain⟨a,b,c,rfl⟩:=DI (ia 3 (s:="ktt") (by decide+kernel) (by decide+kernel) wf);have f:(if Je c="like"then V.str "like"else .aO)= .str r:=f;split at f;·cases f;exact⟨(b,false), .O5⟩
  ·cases f
 rw[if_neg j]at f;by_cases l:x="first"
 ·subst l;rw[if_pos rfl]at f;obtain⟨a,rfl⟩:=List.length_eq_one_iff.mp (ia 1 (s:="t") (by decide+kernel) (by decide+kernel) wf);obtain⟨y,i,rfl⟩:=cz (nM wf).2;have f:(if y="pair"then V.str "first"else .aO)= .str r:=f;split at f;·rename_i g;subst g;cases f;obtain⟨a,b,c,rfl⟩:=DI (ia 3 (s:="ktt") (by decide+kernel) (by decide+kernel) (nM wf).2);exact⟨(b,false), .first⟩
  ·cases f
 rw[if_neg l]at f;by_cases n:x="second"
 ·subst n;rw[if_pos rfl]at f;obtain⟨a,rfl⟩:=List.length_eq_one_iff.mp (ia 1 (s:="t") (by decide+kernel) (by decide+kernel) wf);obtain⟨y,i,rfl⟩:=cz (k6 wf).2;have f:(if y="pair"then V.str "second"else .aO)= .str r:=f;split at f;·rename_i g;subst g;cases f;obtain⟨a,b,c,rfl⟩:=DI (ia 3 (s:="ktt") (by decide+kernel) (by decide+kernel) (k6 wf).2);exact⟨(c,false), .second⟩
  ·cases f
 rw[if_neg n]at f;by_cases q:x="rec"
 ·subst q;rw[if_pos rfl]at f;obtain⟨a,b,c,d,rfl⟩:=four (ia 4 (s:="kttt") (by decide+kernel) (by decide+kernel) wf);obtain⟨_,_,_,_,h⟩:=yk wf;obtain⟨y,i,rfl⟩:=cz h;have f:(if y="zero"then V.str "zero"else if y="next"then V.str "next"else .aO)= .str r:=f;split at f;·cases f;exact⟨(b,false), .zero⟩
  split at f;·rename_i g;subst g;cases f;obtain⟨m,rfl⟩:=List.length_eq_one_iff.mp (ia 1 (s:="t") (by decide+kernel) (by decide+kernel) h);exact⟨(_,false), .next⟩
  ·cases f
 rw[if_neg q]at f;cases f
open Classical in noncomputable def xO(B:Str->D)(e:D)(r:Str):D×Bool:=if h:∃p:D×Bool,EN B e r p.1 p.2 then h.choose else(.aO,false)
theorem PV{B:Str->D}{e:D}{r:Str}(h:∃p:D×Bool,EN B e r p.1 p.2):EN B e r (xO B e r).1 (xO B e r).2:=by unfold xO;rw[dif_pos h];exact h.choose_spec
noncomputable def vW(B:Str->D)(d:D)(pl:List Int)(e:D)(r:Str):D:=putD d pl (xO B e r).1
noncomputable def JG(B:Str->D)(d:D)(pl:List Int)(e:D)(r:Str):Bool:=(xO B e r).2||cP (vW B d pl e r)
structure Td(d:D):Prop where
 wf:Wf d
 dp:depth d<=40
 kn:aX d<=300000
theorem stC{inb:Str->Bool}{B:Str->D}{d e:D}{pl:List Int}{r:Str}(f:Zj inb B)(h:Td d)(a:goto d pl=some e)(c:cb inb e= .str r):QG inb B d pl r (xO B e r).1 (xO B e r).2/\(JG B d pl e r=false->Td (vW B d pl e r)):=by obtain⟨⟨k,wf⟩,hd,_⟩:=h;obtain⟨⟨g,b⟩,l⟩:=Ax pl d e ⟨k,wf⟩ a;have ha:=PV (V9 (B:=B) b (by omega) c);obtain⟨w1,i⟩:=IZ f ha b c;have w2:=DS b w1 pl d k wf a;have j:=La (e:=(xO B e r).1) pl d ⟨k,wf⟩ a;refine⟨⟨⟨e,a,⟨g,b⟩,c,ha⟩,⟨k,wf⟩,by omega,⟨⟨k,w2⟩,by omega,dA _⟩⟩,λh=>?_⟩;have h2:=nc ((Bool.or_eq_false_iff.mp h).2);exact⟨⟨k,w2⟩,h2.1,cq h2.2 (by decide)⟩
noncomputable abbrev Lg:=List Int×Str
noncomputable def lgD(r:Lg):D:= .tup [QB r.1, .str r.2]
inductive Wr|th(d:D)|pl|st|gr
noncomputable def wg(inb:Str->Bool)(B:Str->D):D->List Lg->Wr|d,[]=> .th d|d,r::rest=>match goto d r.1 with|none=> .pl|some e=>if cb inb e= .str r.2 then(if JG B d r.1 e r.2=true then .gr else wg inb B (vW B d r.1 e r.2) rest)else .st
theorem Pt{inb:Str->Bool}{B:Str->D}{d:D}{r:Lg}{rest:List Lg}(h:goto d r.1=none):wg inb B d (r::rest)= .pl:=by rw[wg,h]
theorem RX{inb:Str->Bool}{B:Str->D}{d e:D}{r:Lg}{rest:List Lg}(h:goto d r.1=some e)(a:cb inb e≠ .str r.2):wg inb B d (r::rest)= .st:=by rw[wg,h];exact if_neg a
theorem YX{inb:Str->Bool}{B:Str->D}{d e:D}{r:Lg}{rest:List Lg}(h:goto d r.1=some e)(a:cb inb e= .str r.2)(hb:JG B d r.1 e r.2=true):wg inb B d (r::rest)= .gr:=by rw[wg,h];show(if _ then(if _ then _ else _)else _)=_;rw[if_pos a,if_pos hb]
theorem Tc{inb:Str->Bool}{B:Str->D}{d e:D}{r:Lg}{rest:List Lg}(h:goto d r.1=some e)(a:cb inb e= .str r.2)(hb:JG B d r.1 e r.2=false):wg inb B d (r::rest)=wg inb B (vW B d r.1 e r.2) rest:=by rw[wg,h];show(if _ then(if _ then _ else _)else _)=_;rw[if_pos a,if_neg (by rw[hb];decide)]
theorem E1{inb:Str->Bool}{d:D}(h:Wf d):cb inb d= .aO\/∃r:Str,cb inb d= .str r:=by
 obtain⟨k,h⟩:=h;obtain⟨x,ps,rfl⟩:=cz h;show iI inb x ps= .aO\/∃r:Str,iI inb x ps= .str r;unfold iI Ic;repeat' split
 all_goals first|exact .inl rfl|exact .inr ⟨_,rfl⟩
structure acx(H:Hp)(B:Str->D)(d:D)(v:V)(b:Addr)(aE:List (Key×V))(rows:List Lg)(us:List V)(T1 T2:Addr):Prop where
 rd:Rep H d v
 td:Td d
 rr:bg H (rows.map lgD) us
 hb:H b=some (.dK aE)
 br:TC H aE B
 bb:Zj (g6 aE) B
 tb:R1 H T1 T2
def Gp(c ns gr T1 T2:Addr):Sp:=λvs H Q E=>∃(B:Str->D)(d:D)(v:V)(b a:Addr)(aE:List (Key×V))(rows:List Lg)(us:List V),vs=[v, .ref a, .ref b]/\(H a=some (.lst us)\/H a=some (.tup us))/\acx H B d v b aE rows us T1 T2/\(∀(z:V)(H':Hp)(d':D),ay H H'->wg (g6 aE) B d rows= .th d'->Td d'->Rep H' d' z->Q z H')/\(∀H',ay H H'->wg (g6 aE) B d rows= .pl->E (.ref c) none H')/\(∀H',ay H H'->wg (g6 aE) B d rows= .st->E (.ref ns) none H')/\(∀H',ay H H'->wg (g6 aE) B d rows= .gr->E (.ref gr) none H')
theorem OI{T1 T2:Addr}(D:Df K mg "walked" lu ["thing","log","book"])(M:Mg mg t)(uV:jM K t.iX)(kP:bO P w K mg (c7 P w) "at_place" (3) ["thing","place"] (V0 t.bP))(dJ:bO P w K mg b_ "rule_of" (1) ["thing","book"] uf)(nE:bO P w K mg (c7 P w) "stepped" (128) ["thing","place","book"] (Fe t.cw T1 T2)):bO P w K mg (c7 P w) "walked" (129) ["thing","log","book"] (Gp t.bP t.iX t.cw T1 T2):=by
 refine D.xV gI (λvs H Q E h=>?_) (λbase f bS A outer s H vs Q E O h=>?_);·obtain⟨B,d,v,b,lg,aE,rows,us,rfl,_⟩:=h;rfl
 obtain⟨B,d,v,b,lg,aE,rows,us,rfl,Zk,W,q,qp,qs,qg⟩:=h;refine⟨_,(aj (aR (i:=3) gI.nd rfl (dq rfl) (pv 0)) (aj (gD Dp rfl (X_ (sA (pv 1)) (tL (pv 1))) (t9 (n:=2) rfl (cO (bx (i:=4) gI.nd rfl (dq rfl)) (cO (bx (i:=5) gI.nd rfl (dq rfl)) ma))) (aj (bj (aG Gn (aV dJ O.m rfl bh (aa (aV kP O.m rfl bc (aa (pv 3) (aa (pv 4) ah))) (aa (pv 2) ah))) (pv 5) (aJ _)) (ak (cB (G:=(λH'=>E (.ref t.iX) none H')) uV M.g_NoStep (aa aN ah) (λpins σ H s e h' I m q=>da I m q))) aK) (ak (aR (i:=3) gI.nd rfl (dq rfl) (aV nE O.m rfl bc (aa (pv 3) (aa (pv 4) (aa (pv 2) ah)))))))) (ak (aB (pv 3))))),?_⟩;try dsimp only[iG,cQ]
 refine xD ?_;intro _ _ _;have Xe:=W.rr.length;rw[cy]at Xe;refine⟨_,rfl,YQ Zk (λQ h=>⟨_,rfl,h⟩) λJ wl=>?_⟩;refine Qh wl (λj N H'=>∃(a:KM.D)(u:V)(U X:Option V),N=[some v,some (.ref lg),some (.ref b),some u,U,X]/\ay H H'/\Rep H' a u/\Td a/\wg (g6 aE) B d rows=wg (g6 aE) B a (rows.drop j)) ⟨d,v,none,none,rfl,ay.refl _,W.rd,W.td,rfl⟩ (λi N H' h=>h.elim λ_ h=>h.elim λ_ h=>h.elim λ_ h=>h.elim λ_ h=>h.2.1) ?_ ?_
 ·rintro j N Y x hx⟨a,u,U,X,rfl,s1,F,C,k⟩;have hj:j<us.length:=(List.getElem?_eq_some_iff.mp hx).1;obtain⟨r,R⟩:∃r,rows[j]?=some r:=⟨_,dR (by omega)⟩;obtain⟨x',Xq,rx⟩:=W.rr.get (show(rows.map lgD)[j]?=some (lgD r)by rw[ny,R];rfl);rw[hx]at Xq;cases Xq;obtain⟨row,_,rfl,VM,⟨pw,_,rfl,S,⟨_,_,rfl,⟨rfl,hr2⟩,rn⟩⟩⟩:=id rx;cases(show _=[]from rn);have edr:rows.drop j=r::rows.drop (j+1):=by rw[El (by omega)];rw[dR (by omega)]at R;rw[Option.some.inj R]
  rw[edr]at k;refine⟨row,_,rfl,bQ.of (s1 _ _ VM),rfl,_,_,rfl,_,_,rfl,rfl,?_⟩;cases g:goto a r.1 with
   |none=>refine⟨_,rfl,_,rfl,a,u,r.1,pw,rfl,F,C.wf,S.mono s1,(λe1 u2 L y l r3=>by rw[g]at l;cases l),λL y l=>?_⟩;exact qp L (s1.trans y) (k.trans (Pt g))
   |some e=>
    obtain⟨we,_⟩:=Ax _ _ _ C.wf g;refine⟨_,rfl,_,rfl,a,u,r.1,pw,rfl,F,C.wf,S.mono s1,λe1 u2 L y l r3=>?_,λL y l=>by rw[g]at l;cases l⟩;rw[g]at l;cases l;have sV:=s1.trans y;refine⟨_,rfl,e,u2,b,aE,rfl,r3,we,sV _ _ W.hb,λZ s4=>?_⟩;have p:=sV.trans s4;rcases E1 (inb:=g6 aE) we with o|⟨r',o⟩;·rw[o];refine⟨_,rfl,rfl,_,rfl,a_ (λ_=>?_) (λc=>absurd rfl c)⟩;exact⟨by decide,qs Z p (k.trans (RX g (by rw[o];simp)))⟩
    rw[o];refine⟨_,rfl,rfl,_,rfl,a_ (λc=>?_) (λc=>?_)⟩;·exact⟨by decide,qs Z p (k.trans (RX g (by rw[o];intro z;rw[z]at c;simp at c)))⟩
    have er:r'=r.2:=by
     by_cases z:r'=r.2;·exact z
     ·exact absurd (by simp[z]) c
    subst er;obtain⟨ok,nx⟩:=stC W.bb C g o;refine⟨_,rfl,_,rfl,_,rfl,B,a,_,u,pw,r.1,b,aE,r.2,_,rfl,F.mono (y.trans s4),S.mono p,p _ _ W.hb,W.br.mono p,ok,W.tb.mono p,λz H5 T J4 r5=>?_,λH5 T SR=>qg H5 (p.trans T) (k.trans (YX g o SR))⟩;exact⟨vW B a r.1 e r.2,z,_,_,rfl,p.trans T,r5,nx J4,k.trans (Tc g o J4)⟩
 ·rintro N Y⟨a,u,U,X,rfl,s1,F,C,k⟩;rw[List.drop_eq_nil_of_le (by omega)]at k;exact⟨_,rfl,q u Y a s1 k C F⟩
end K62
end
section
namespace K62
open PySem L2 L3 KM PyProof.Rows
noncomputable abbrev Row:=Str×Str×Str
noncomputable def e8:List Row:=[("plus","(all a nat (all b nat nat))","\n(fun a nat (fun b nat\n    (rec x nat a (fun n nat (fun r nat (next r))) b)))\n"),("times","(all a nat (all b nat nat))","\n(fun a nat (fun b nat\n    (rec x nat 0\n        (app (fun c nat (fun n nat (fun r nat (rec y nat r (fun m nat (fun q nat (next q))) c)))) a)\n        b)))\n"),("turnabout","(all a nat (all b nat (all e (same nat a b) (same nat b a))))","\n(fun a nat (fun b nat (fun e (same nat a b)\n    (carry x (same nat x a) (like nat a) e))))\n"),("through","(all a nat (all b nat (all c nat (all d (same nat a b) (all e (same nat b c) (same nat a c))))))","\n(fun a nat (fun b nat (fun c nat (fun d (same nat a b) (fun e (same nat b c)\n    (carry x (same nat a x) d e))))))\n"),("nexts","(all a nat (all b nat (all e (same nat a b) (same nat (next a) (next b)))))","\n(fun a nat (fun b nat (fun e (same nat a b)\n    (carry x (same nat (next a) (next x)) (like nat (next a)) e))))\n"),("pluszero","(all a nat (same nat (app (app plus a) 0) a))","\n(fun a nat (like nat a))\n"),("plusnext","(all a nat (all b nat (same nat (app (app plus a) (next b)) (next (app (app plus a) b)))))","\n(fun a nat (fun b nat\n    (like nat (next (app (app plus a) b)))))\n"),("commutes","(all a nat (all b nat (same nat (app (app plus a) b) (app (app plus b) a))))","\n(fun a nat (fun b nat\n    (rec x (same nat (app (app plus a) x) (app (app plus x) a))\n        (rec y (same nat y (app (app plus 0) y))\n            (like nat 0)\n            (fun m nat (app (app nexts m) (app (app plus 0) m)))\n            a)\n        (fun n nat (fun h (same nat (app (app plus a) n) (app (app plus n) a))\n            (carry z (same nat (next (app (app plus a) n)) z)\n                (app (app (app nexts (app (app plus a) n)) (app (app plus n) a)) h)\n                (rec y (same nat (next (app (app plus n) y)) (app (app plus (next n)) y))\n                    (like nat (next n))\n                    (fun m nat (app (app nexts (next (app (app plus n) m))) (app (app plus (next n)) m)))\n                    a))))\n        b)))\n"),("doubled","(all a nat (some b nat (same nat b (app (app plus a) a))))","\n(fun a nat\n    (pair (some b nat (same nat b (app (app plus a) a)))\n        (app (app plus a) a)\n        (like nat (app (app plus a) a))))\n")]
noncomputable def ws(T:Str):List Str:=(jN T.cps.toList).map tx
noncomputable def nt:D:= .tup [.str "nat"]
noncomputable def vr(i:Int):D:= .tup [.str "var", .int i]
noncomputable def fn(d:D):D:= .tup [.str "fun",nt,d]
noncomputable def psT:D:=fn (fn (.tup [.str "next",vr 0]))
noncomputable def RJ:D:=fn (fn (.tup [.str "rec",nt,vr 1,psT,vr 0]))
noncomputable def Ld:D:=fn (fn (.tup [.str "rec",nt, .tup [.str "zero"], .tup [.str "app",fn (fn (fn (.tup [.str "rec",nt,vr 0,psT,vr 2]))),vr 1],vr 0]))
noncomputable def rdT(y:Str):D:=((e8.find? λr=>decide (r.1=y)).bind λr=>eU [] "term" (ws r.2.2)).getD .aO
noncomputable def Bf(y:Str):D:=if y="plus"then RJ else if y="times"then Ld else rdT y
noncomputable def WW(T:Str):Bool:=decide (T.length<=99999)&&(decide ((jN T.cps.toList).length<=50000)&&(jN T.cps.toList).all λz=>decide (1<=z.length)&&decide (z.length<=1000))
noncomputable def rdK(r:Row):Bool:=match eU [] "kind" (ws r.2.1)with|some d=>!yi d&&bz ar true d|none=>false
noncomputable def rdB(r:Row):Bool:=match eU [] "term" (ws r.2.2)with|some d=>(!yi d&&decide (aX d<=600))&&(bz ar false d&&decide (depth d<=16))|none=>false
noncomputable def chk(r:Row):Bool:=(WW r.2.1&&WW r.2.2)&&(rdK r&&rdB r)
theorem aby:e8.all chk=true:=by kernel_rfl
theorem nd9:(e8.map (·.1)).Nodup:=by decide+kernel
theorem Ft:∀{l:List Row}{r:Row},(l.map (·.1)).Nodup->r∈l->l.find? (λq=>decide (q.1=r.1))=some r
 |[],r,_,h=>by cases h
 |a::l,r,nd,h=>by
  rw[dQ,List.nodup_cons]at nd;rcases List.mem_cons.mp h with rfl|h;·rw[List.find?_cons,decide_eq_true rfl]
  ·have ne:a.1≠r.1:=λz=>nd.1 (by rw[z];exact List.mem_map.mpr ⟨r,h,rfl⟩);rw[List.find?_cons,decide_eq_false ne];exact Ft nd.2 h
theorem P8:rdT "plus"=RJ:=by kernel_rfl
theorem MP:rdT "times"=Ld:=by kernel_rfl
theorem Yb(y:Str):Bf y=rdT y:=by
 unfold Bf;split;·rename_i h;rw[h];exact P8.symm
 ·split;·rename_i h;rw[h];exact MP.symm
  ·rfl
theorem WM{T:Str}(h:WW T=true):T.length<=99999/\(jN T.cps.toList).length<=50000/\∀z∈jN T.cps.toList,1<=z.length/\z.length<=1000:=by unfold WW at h;rw[bD,bD]at h;refine⟨of_decide_eq_true h.1,of_decide_eq_true h.2.1,λz a=>?_⟩;have :=List.all_eq_true.mp h.2.2 z a;rw[bD]at this;exact⟨of_decide_eq_true this.1,of_decide_eq_true this.2⟩
structure aaz(r:Row):Prop where
 w1:WW r.2.1=true
 w2:WW r.2.2=true
 kd:∃d,eU [] "kind" (ws r.2.1)=some d/\yi d=false/\bz ar true d=true
 tm:eU [] "term" (ws r.2.2)=some (Bf r.1)/\yi (Bf r.1)=false
 wf:bz ar false (Bf r.1)=true
 dp:depth (Bf r.1)<=16
theorem Fb{r:Row}(h:r∈e8):aaz r:=by
 have c:=List.all_eq_true.mp aby r h;unfold chk at c;rw[bD,bD,bD]at c;obtain⟨⟨c1,c2⟩,b,a⟩:=c;have f:e8.find? (λq=>decide (q.1=r.1))=some r:=Ft nd9 h;have i:Bf r.1=(eU [] "term" (ws r.2.2)).getD .aO:=by rw[Yb];unfold rdT;rw[f];rfl
 unfold rdK at b;unfold rdB at a;cases e1:eU [] "kind" (ws r.2.1)with
  |none=>rw[e1]at b;cases b
  |some e=>
   cases e2:eU [] "term" (ws r.2.2)with
    |none=>rw[e2]at a;cases a
    |some d=>
     rw[e1]at b;rw[e2]at a;have b:(!yi e&&bz ar true e)=true:=b;have a:((!yi d&&decide (aX d<=600))&&(bz ar false d&&decide (depth d<=16)))=true:=a;rw[bD,bD,bD]at a;rw[bD]at b;have g:Bf r.1=d:=by rw[i,e2];rfl
     refine⟨c1,c2,⟨e,e1,by simpa using b.1,b.2⟩,?_,?_,?_⟩;·rw[g,e2];exact⟨rfl,by simpa using a.1.1⟩
     ·rw[g];exact a.2.1
     ·rw[g];exact of_decide_eq_true a.2.2
noncomputable def jc(y:Str):Bool:=decide (y∈e8.map (·.1))
end K62
end
section
namespace L3
open PySem PySem.Spec PyProof.Rows L2 KM
noncomputable def Rws(K:PySem.W.Frag):List Addr->List (Str×Str×Str)->Prop|[],rs=>rs=[]|b::bs,rs=>∃r rr,rs=r::rr/\m4 K b [.str r.1, .str r.2.1, .str r.2.2]/\Rws K bs rr
def ZC(K:PySem.W.Frag)(a:Addr)(rows:List (Str×Str×Str)):Prop:=∃bs:List Addr,m4 K a (bs.map V.ref)/\Rws K bs rows
theorem iu{K:PySem.W.Frag}{a:Addr}{d:Option Addr}{its:Array Value}{n:Nat}{sl:Array (Option Value)}{x y z:Str}{k l m:Tok}(h:K.lookup a=some ⟨.type "tuple",d, .seq its n,sl⟩)(e:its.toList=[.str x k, .str y l, .str z m]):m4 K a [.str x, .str y, .str z]:=by refine⟨_,its,n,h,rfl,rfl,?_,by rw[e];exact .cons ⟨k,rfl⟩ (.cons ⟨l,rfl⟩ (.cons ⟨m,rfl⟩ .nil))⟩;have h2:=congrArg List.length e;rw[Array.length_toList]at h2;rw[h2];show 3<=sizeLine;decide
theorem Rws.at{K:PySem.W.Frag}:∀{bs:List Addr}{rows:List (Str×Str×Str)},Rws K bs rows->bs.length=rows.length/\∀(i:Nat)(r:Str×Str×Str),rows[i]?=some r->∃b,bs[i]?=some b/\m4 K b [.str r.1, .str r.2.1, .str r.2.2]|[],rows,h=>by cases(show rows=[]from h);exact⟨rfl,λi r e=>by simp at e⟩|b::bs,_,⟨r,rr,e,q,h⟩=>by subst e;obtain⟨h1,h2⟩:=Rws.at h;refine⟨by rw[dY,dY,h1],λi a e=>?_⟩;cases i with|zero=>simp at e;subst e;exact⟨b,rfl,q⟩|succ i=>exact h2 i a (by simpa using e)
end L3
end
section
namespace K62
open PySem L2 L3 KM PyProof.Rows
seal L2.PE L2.PS L2.gR L2.PT L2.PW L2.PA L2.PG L2.zI L2.PI L2.PC L2.PO L2.E_ L2.PK L3.zD L3.PH L3.PB
variable{P:Program}{w:World}{K:PySem.W.Frag}{mg:Str->Option Value}{base:Heap}{t:wQ}
structure Ek(K:PySem.W.Frag)(t:wQ):Prop where
 e0:jM K t.cw
 e1:jM K t.bP
 e2:jM K t.iX
 e3:jM K t.Xn
 e4:jM K t.bp
def Nf(a:Str)(K:PySem.W.Frag)(N G:Addr):Sp:=λvs H Q E=>∃(T:Str)(b:Addr),vs=[.str T, .ref b]/\si K N G [.str T, .ref b, .str a] H Q E
theorem Ae:aC ["text","names"] ["text","names"] (ai gp):=⟨rfl,rfl,rfl,by decide+kernel,rfl,by decide+kernel,by decide+kernel⟩
theorem Bh(D:Df K mg "read_term" gp ["text","names"])(M:Mg mg t)(a:Am P w K mg (c7 P w) "read_thing" 66 ["text","names","due"] (si K t.bp t.cw)):bO P w K mg (c7 P w) "read_term" (67) ["text","names"] (Nf "term" K t.bp t.cw):=by
 refine D.xV Ae (λvs H Q E h=>?_) (λbase f bS A outer s H vs Q E c h=>?_);·obtain⟨T,b,rfl,_⟩:=h;rfl
 obtain⟨T,b,rfl,h⟩:=h;exact⟨_,(ak (aB (MH a c.m rfl bc (mH (pv 0) (mH (pv 1) GA))))),⟨_,rfl,_,rfl,h⟩⟩
theorem Ai:aC ["text","names"] ["text","names"] (ai gg):=⟨rfl,rfl,rfl,by decide+kernel,rfl,by decide+kernel,by decide+kernel⟩
theorem BD(D:Df K mg "read_kind" gg ["text","names"])(M:Mg mg t)(a:Am P w K mg (c7 P w) "read_thing" 66 ["text","names","due"] (si K t.bp t.cw)):bO P w K mg (c7 P w) "read_kind" (67) ["text","names"] (Nf "kind" K t.bp t.cw):=by
 refine D.xV Ai (λvs H Q E h=>?_) (λbase f bS A outer s H vs Q E c h=>?_);·obtain⟨T,b,rfl,_⟩:=h;rfl
 obtain⟨T,b,rfl,h⟩:=h;exact⟨_,(ak (aB (MH a c.m rfl bc (mH (pv 0) (mH (pv 1) GA))))),⟨_,rfl,_,rfl,h⟩⟩
theorem HW{N G:Addr}{H:Hp}{Q:VK}{E:XK}{T a:Str}{b:Addr}{d:D}(hw:WW T=true)(hb:H b=some (.lst []))(f:eU [] a (ws T)=some d)(c:yi d=false)(wf:Wf d)(q:∀(v:V)(H':Hp),ay H H'->Rep H' d v->Q v H'):Nf a K N G [.str T, .ref b] H Q E:=by
 obtain⟨w1,w2,g⟩:=WM hw;refine⟨T,b,rfl,T,a,b,[],rfl,w1,hb,dA _,w2,g,λe=>?_,λd' e=>?_⟩;·have e:eU [] a (ws T)=none:=e;rw[f]at e;cases e
 ·have e:eU [] a (ws T)=some d':=e;rw[f]at e;cases e;have :=(nc c).1;exact⟨⟨wf,by omega,dA _⟩,λv H' s r _=>q v H' s r,λH' s h=>by rw[c]at h;cases h⟩
theorem lU{H:Hp}{b:Addr}{aE:List (Key×V)}(h:H b=some (.dK aE)):∀vs,H b≠some (.tup vs):=λvs z=>by rw[h]at z;cases z
structure Bi(H:Hp)(b:Addr)(aE:List (Key×V))(i:Nat):Prop where
 hb:H b=some (.dK aE)
 ln:aE.length<=i
 is:∀y:Str,g6 aE y=decide (y∈(e8.take i).map (·.1))
 br:TC H aE Bf
def Cp:Sp:=λvs H Q _=>vs=[]/\∀(b:Addr)(aE:List (Key×V))(H':Hp),ay H H'->H b=none->Bi H' b aE 9->Q (.ref b) H'
theorem gQ:aC ["book","name","kind","term"] [] (ai lO):=⟨rfl,rfl,rfl,by decide+kernel,rfl,by decide+kernel,by decide+kernel⟩
theorem Ms(D:Df K mg "basics" lO [])(M:Mg mg t)(T:ZC K t.QS e8)(Bt:bO P w K mg (c7 P w) "read_term" (67) ["text","names"] (Nf "term" K t.bp t.cw))(Dt:bO P w K mg (c7 P w) "read_kind" (67) ["text","names"] (Nf "kind" K t.bp t.cw)):bO P w K mg (c7 P w) "basics" (68) [] Cp:=by
 refine D.xV gQ (λvs H Q E h=>?_) (λbase f bS A outer s H vs Q E F h=>?_);·obtain⟨rfl,_⟩:=h;rfl
 obtain⟨rfl,q⟩:=h;obtain⟨bs,T0,x⟩:=T;obtain⟨lb,x⟩:=x.at;have hu:=Bu F;refine⟨_,(aj (aR (i:=0) gQ.nd rfl (dq rfl) MJ) (aj (gD Dp rfl (tL (e_ M.g_TOLD rfl)) (t9 (n:=3) rfl (cO (bx (i:=1) gQ.nd rfl (dq rfl)) (cO (bx (i:=2) gQ.nd rfl (dq rfl)) (cO (bx (i:=3) gQ.nd rfl (dq rfl)) ma)))) (ak (Qr hu (pv 0) (pv 1) (bJ (aa (aV Dt F.m rfl bc (aa (pv 2) (aa (gy ah) ah))) (aa (aV Bt F.m rfl bc (aa (pv 3) (aa (gy ah) ah))) ah))) rfl))) (ak (aB (pv 0))))),?_⟩;try dsimp only[iG,cQ]
 refine xD ?_;intro _ _ _;refineλb C=>?_;have t0:=av C (.dK []);have X:(upd H b (.dK [])) b=some (.dK []):=aq;generalize upd H b (.dK [])=H0 at t0 X⊢;have l9:e8.length=9:=rfl;refine⟨t.QS,rfl,⟨_, .inr T0⟩,?_⟩;let Jm:Nat->L2.St->Hp->Prop:=(λi O H'=>∃(aE:List (Key×V))(I J L:Option V),O=[some (.ref b),I,J,L]/\ay H H'/\Bi H' b aE i);refine iU 9 Jm ?_ ?_ ?_;·exact⟨[],none,none,none,rfl,t0,X,bf _,λy=>rfl,λy d=>(by cases d)⟩
 ·rintro i O S hi⟨aE,I,J,L,rfl,s1,g⟩;obtain⟨r,G⟩:∃r,e8[i]?=some r:=⟨_,dR (by omega)⟩;obtain⟨W,hbi,qi⟩:=x i r G;have Y:(bs.map V.ref)[i]?=some (.ref W):=by rw[ny,hbi];rfl
  have R:=Fb (vI G);obtain⟨dk,k1,k2,k3⟩:=R.kd;obtain⟨m1,m2⟩:=R.tm;refine⟨⟨_,_, .inr T0,Y⟩,?_⟩;rintro x' H2⟨rfl,d⟩;have d:=d _ (.inr T0);rw[Y]at d;cases d;refine⟨W,_,rfl, .inr qi,rfl,_,_,rfl,_,_,rfl,_,_,rfl,rfl,?_⟩;refine⟨_,rfl,(gZ rfl),λp1 e1=>?_⟩;have t1:=av e1 (.lst []);refine HW R.w1 aq k1 k2 ⟨_,k3⟩ λm H3 s3 r3=>?_;refine⟨_,rfl,(gZ rfl),λp4 e4=>?_⟩;have t4:=av e4 (.lst []);refine HW R.w2 aq m1 m2 ⟨_,R.wf⟩ λp U s5 r5=>⟨(gZ rfl),λe e6=>?_⟩;have N:=av e6 (.tup [m,p]);have l:=t1.trans (s3.trans (t4.trans (s5.trans N)));have h6:(upd U e (.tup [m,p])) e=some (.tup [m,p]):=aq;have Z:=r5.mono N;generalize upd U e (.tup [m,p])=v at N l h6 Z⊢;have j:=l _ _ g.hb;have l1:=g.ln;refine⟨_,rfl,_,rfl,b,_,rfl,NR.k (k:=Sum.inr r.1) j (by rw[sizeLine_eq];omega),?_⟩;have u:eR b v (upd v b (.dK (putK aE (Sum.inr r.1) (.ref e)))):=eR.upd _;have sH:ay H (upd v b (.dK (putK aE (Sum.inr r.1) (.ref e)))):=λa o ha=>by rw[aI (aD ha C)];exact l _ _ (s1 _ _ ha)
  refine⟨putK aE (Sum.inr r.1) (.ref e),_,_,_,rfl,sH,aq,cq (ji _ _ _) (by omega),λy=>?_,λy d=>?_⟩
  ·have e1:g6 (putK aE (Sum.inr r.1) (.ref e)) y=(decide (y=r.1)||g6 aE y):=by
    unfold g6;rw[lV];by_cases c:y=r.1;·rw[if_pos (by rw[c]),decide_eq_true c];rfl
    ·rw[if_neg (λz=>c (by injection z)),decide_eq_false c];rfl
   have e2:e8.take (i+1)=e8.take i++[r]:=by rw[List.take_succ,G];rfl
   rw[e1,g.is,e2,List.map_append,<-Bool.decide_or];refine decide_eq_decide.mpr ?_;rw[List.mem_append];simp only[dQ,List.map_nil,List.mem_singleton];exact Or.comm
  ·by_cases c:y=r.1;·subst c;exact⟨e,m,p,by rw[lV,if_pos rfl],u _ _ (λz=>by rw[z,j]at h6;cases h6) h6,Z.gX u (lU j)⟩
   ·have hy':g6 aE y=true:=by unfold g6 at d⊢;rw[lV,if_neg (λz=>c (by injection z))]at d;exact d
    obtain⟨q',kv,tv,a1,a2,a3⟩:=g.br y hy';have B:=l _ _ a2;exact⟨q',kv,tv,by rw[lV,if_neg (λz=>c (by injection z))];exact a1,u _ _ (λz=>by rw[z,j]at B;cases B) B,(a3.mono l).gX u (lU j)⟩
 ·rintro O S⟨aE,I,J,L,rfl,s1,g⟩;refine⟨⟨_, .inr T0,by rw[cy,lb];exact bf _⟩,?_⟩;exact⟨_,rfl,q b aE S s1 C g⟩
end K62
end
section
namespace K62
open PySem L2 L3 KM PyProof.Rows
noncomputable def ng(d:D)(i:Nat):D:=match d with| .tup ds=>(ds[i+1]?).getD .aO|_=> .aO
noncomputable def Fu(r:Str):Bool:=decide (r∈(["fun","next","zero","name"]:List Str))
noncomputable def pH(e:D)(r:Str):D:=if r="fun"then vV (ng e 1) 0 (ng (ng e 0) 1)else if r="next"then .tup [.str "app", .tup [.str "app",ng e 2,ng (ng e 3) 0], .tup [.str "rec",ng e 0,ng e 1,ng e 2,ng (ng e 3) 0]]else if r="name"then(match ng e 0 with| .str y=>Bf y|_=> .aO)else ng e 1
noncomputable def BN:Nat->D->Option (D×List A5)|0,_=>none|f+1,d=>match ft jc d with|none=>some (d,[])|some r=>match goto d (lJ r.1)with|none=>none|some e=>if((decide (gh jc e=some r.2)&&Fu r.2)&&(!cP (pH e r.2)&&!cP (putD d (lJ r.1) (pH e r.2))))=true then(match BN f (putD d (lJ r.1) (pH e r.2))with|none=>none|some q=>some (q.1,r::q.2))else none
theorem UT{e e':D}{r:Str}{g:Bool}(h:EN Bf e r e' g)(h4:Fu r=true):e'=pH e r/\(g=true->cP e'=true):=by cases h with|fn _ _ _ _ _=>exact⟨rfl,λh=>h⟩|zero=>exact⟨rfl,λh=>by cases h⟩|O5=>exact absurd h4 (by decide+kernel)|next=>exact⟨rfl,λh=>by cases h⟩|first=>exact absurd h4 (by decide+kernel)|second=>exact absurd h4 (by decide+kernel)|name=>exact⟨rfl,λh=>by cases h⟩
noncomputable def Vs(r:A5):Lg:=(lJ r.1,r.2)
theorem Oq(u:Zj jc Bf):∀(f:Nat)(d:D)(q:D×List A5),Td d->BN f d=some q->Td q.1/\q.2.length<=f/\wg jc Bf d (q.2.map Vs)= .th q.1/\∀F:Nat,q.2.length<=F->Run jc Bf (.ok q.1) F q.2 d:=λf=>by
 induction f with
  |zero=>intro d q _ h;cases h
  |succ f w=>
   intro d q td h;rw[BN]at h;cases g:ft jc d with
    |none=>rw[g]at h;cases h;exact⟨td,dA _,rfl,λF _=> .inl ⟨g,rfl⟩⟩
    |some r=>
     rw[g]at h;have h:(match goto d (lJ r.1)with|none=>none|some e=>if((decide (gh jc e=some r.2)&&Fu r.2)&&(!cP (pH e r.2)&&!cP (putD d (lJ r.1) (pH e r.2))))=true then(match BN f (putD d (lJ r.1) (pH e r.2))with|none=>none|some q=>some (q.1,r::q.2))else none)=some q:=h;cases b:goto d (lJ r.1)with
      |none=>rw[b]at h;cases h
      |some e=>
       rw[b]at h;have h:(if((decide (gh jc e=some r.2)&&Fu r.2)&&(!cP (pH e r.2)&&!cP (putD d (lJ r.1) (pH e r.2))))=true then(match BN f (putD d (lJ r.1) (pH e r.2))with|none=>none|some q=>some (q.1,r::q.2))else none)=some q:=h;split at h
       ·rename_i c;rw[bD,bD,bD]at c;obtain⟨⟨c1,c2⟩,m,t⟩:=c;have c1:=of_decide_eq_true c1;have p:cb jc e= .str r.2:=by
         rcases jk jc e with⟨_,z⟩|⟨y,A,B,_⟩;·rw[z]at c1;cases c1
         ·rw[B]at c1;cases c1;exact A
        obtain⟨ok,nx⟩:=stC u td b p;obtain⟨⟨e2,n,_,C,ha⟩,_⟩:=id ok;rw[b]at n;cases n;obtain⟨i,s⟩:=UT ha c2;have j:JG Bf d (lJ r.1) e r.2=false:=by unfold JG vW;rw[i,Bool.or_eq_false_iff];refine⟨?_,by simpa using t⟩;cases v:(xO Bf e r.2).2 with|false=>rfl|true=>have :=s v;rw[i]at this;rw[this]at m;cases m
        have k:vW Bf d (lJ r.1) e r.2=putD d (lJ r.1) (pH e r.2):=by unfold vW;rw[i]
        cases l:BN f (putD d (lJ r.1) (pH e r.2))with
         |none=>rw[l]at h;cases h
         |some a=>
          rw[l]at h;have h:some (a.1,r::a.2)=some q:=h;cases h;obtain⟨t1,t2,x,t4⟩:=w _ a (k▸nx j) l;refine⟨t1,Nat.succ_le_succ t2,?_,λF o=>?_⟩;·show wg jc Bf d (Vs r::a.2.map Vs)=_;rw[Tc (r:=Vs r) b p j];show wg jc Bf (vW Bf d (lJ r.1) e r.2) _=_;rw[k];exact x
          ·have o:a.2.length+1<=F:=o;refine⟨by omega,_,_,g,ok,j,?_⟩;show Run jc Bf (.ok a.1) (F-1) a.2 (vW Bf d (lJ r.1) e r.2);rw[k];exact t4 (F-1) (by omega)
       ·cases h
noncomputable def vC:Nat->D|0=> .tup [.str "zero"]|n+1=> .tup [.str "next",vC n]
noncomputable def ud(x:Str)(a b:Nat):D:= .tup [.str "app", .tup [.str "app", .tup [.str "name", .str x],vC a],vC b]
noncomputable def W5:Nat->D->Bool|0, .tup [.str x]=>decide (x="zero")|n+1, .tup [.str x,d]=>decide (x="next")&&W5 n d|_,_=>false
theorem NV:∀(n:Nat)(d:D),W5 n d=true->d=vC n
 |0,d,h=>by
  unfold W5 at h;split at h;·rw[of_decide_eq_true h];rfl
  ·rename_i e;cases e
  ·cases h
 |n+1,d,h=>by
  unfold W5 at h;split at h;·rename_i e;cases e
  ·rename_i e;cases e;rw[bD]at h;rw[of_decide_eq_true h.1,NV _ _ h.2];rfl
  ·cases h
noncomputable def Z3(x:Str)(a b c:Nat):Bool:=match BN 400 (ud x a b)with|some q=>W5 c q.1|none=>false
theorem sums:((List.range 13).all λa=>(List.range (13-a)).all λb=>Z3 "plus" a b (a+b))=true:=by kernel_rfl
theorem X6:((List.range 13).all λa=>(List.range (12/max a 1+1)).all λb=>Z3 "times" a b (a*b))=true:=by kernel_rfl
theorem mh:∀n:Nat,bz ar false (vC n)=true/\depth (vC n)<=1+n/\aX (vC n)<=1+n
 |0=>⟨QM,by simp[vC,depth,aw],by simp[vC,aX,aY]⟩
 |n+1=>by
  obtain⟨a,b,c⟩:=mh n;refine⟨OL a,?_,?_⟩;·refine cq (m7 (m:=1+n) λe d=>?_) (by omega);cases List.mem_singleton.mp d;exact b
  ·simp only[vC,aX,aY];omega
theorem KC{x:Str}{a b:Nat}(ha:a<=12)(hb:b<=12):Td (ud x a b):=by
 obtain⟨a1,a2,a3⟩:=mh a;obtain⟨d,f,g⟩:=mh b;refine⟨⟨false,xJ (xJ (Pw rfl) a1) d⟩,?_,?_⟩
 ·refine cq (m7 (m:=20) λe c=>?_) (by decide);simp only[gF,jr,or_false]at c;rcases c with rfl|rfl
  ·refine cq (m7 (m:=15) λe c=>?_) (by decide);simp only[gF,jr,or_false]at c;rcases c with rfl|rfl;·simp[depth,aw]
   ·omega
  ·omega
 ·simp only[ud,aX,aY];omega
theorem bk9:Zj jc Bf:=λy a=>by have a:y∈e8.map (·.1):=of_decide_eq_true a;obtain⟨r,b,rfl⟩:=List.mem_map.mp a;exact⟨(Fb b).wf,(Fb b).dp⟩
theorem comes{x:Str}{a b c:Nat}(h:Z3 x a b c=true)(ha:a<=12)(hb:b<=12):∃rs:List A5,rs.length<=400/\wg jc Bf (ud x a b) (rs.map Vs)= .th (vC c)/\∀F:Nat,rs.length<=F->Run jc Bf (.ok (vC c)) F rs (ud x a b):=by unfold Z3 at h;cases e:BN 400 (ud x a b)with|none=>rw[e]at h;cases h|some q=>rw[e]at h;have h:W5 c q.1=true:=h;obtain⟨_,t2,d,t4⟩:=Oq bk9 400 _ q (KC ha hb) e;rw[NV _ _ h]at d t4;exact⟨q.2,t2,d,t4⟩
end K62
end
section
namespace L3
open PySem PySem.Spec PyProof.Rows L2 KM
end L3
end
section
namespace L3
open PySem PySem.Spec PyProof.Rows L2
noncomputable abbrev acI(h:Heap)(z TI TO:Addr)(a f1:Value):Prop:=h.get? z=some {cls:= .type "zip",dict:=none,data:= .fields #[a,f1, .bool false, .ref TI, .ref TO],slots:=#[]}
def ZG(h:Heap)(z TI TO:Addr):Prop:=∃b f1,acI h z TI TO b f1/\(b= .none\/∃a t,b= .int a t)
section
variable{prog:Program}{w:World}{A:Around}{E:Value->Shared->Prop}{s:Shared}
variable{z TI TO i1 i2:Addr}{f1 f2:List Addr}{n1 n2:Nat}{P1 P2:Nat->Value->Prop}{S1 S2:Nat->Heap->Prop}
end
structure acM(a b e z TI TO i1 i2:Addr)(i:Nat)(h:Heap):Prop where
 e:∃old,IsEnum h e z i old
 z:ZG h z TI TO
 TI:IsPair h TI (.ref i1) (.ref i2)
 TO:∃u v,IsPair h TO u v
 i1:h.IsListIter i1 a i
 i2:h.IsListIter i2 b i
end L3
end
section
namespace L3
theorem Wn{k:Nat}{A:PySem.Around}(r:L2.bY k A):A.units+84<PySem.cLine:=by have :=r.un;lia
end L3
end
section
namespace K62
open PySem L2 L3 KM PyProof.Rows
mutual theorem Fn:∀{k:Bool}{d:D},bz ar k d=true->N5 d=true|k, .tup (.str x::ps),h=>by obtain⟨s,e1,e2,e3,e4,e5,_⟩:=bF h;show(true&&DR ps)=true;rw[MY e3];rfl|k, .tup [],h=>by simp[bz]at h|k, .tup (.aO::_),h=>by simp[bz]at h|k, .tup (.bl _::_),h=>by simp[bz]at h|k, .tup (.int _::_),h=>by simp[bz]at h|k, .tup (.tup _::_),h=>by simp[bz]at h|k, .aO,h=>by simp[bz]at h|k, .bl _,h=>by simp[bz]at h|k, .int _,h=>by simp[bz]at h|k, .str _,h=>by simp[bz]at h theorem MY:∀{cs:List Nat}{ps:List D},eK ar cs ps=true->DR ps=true
 |[],[],_=>rfl
 |[],_::_,h=>by simp[eK]at h
 |_::_,[],h=>by simp[eK]at h
 |c::cs,p::ps,h=>by
  rw[aP,bD]at h;show(N5 p&&DR ps)=true;rw[MY h.2,Bool.and_true];have h:=h.1;unfold eE at h;by_cases c1:c=107;·rw[if_pos c1]at h;exact Fn h
  ·rw[if_neg c1]at h;by_cases c2:c=116;·rw[if_pos c2]at h;exact Fn h
   ·rw[if_neg c2]at h;cases p<;>first|rfl|(simp[jP,ar]at h;done)end
theorem mE{H:Hp}:∀{ds:List D}{us:List V},bg H ds us->fY H (ds.map DX.d) us|[],us,h=>h|d::ds,_,⟨v,us,e,h,t⟩=>⟨v,us,e,h,mE t⟩
theorem Mc:∀ds:List D,AB (ds.map DX.d)=DR ds|[]=>rfl|d::ds=>by show(N5 d&&AB (ds.map DX.d))=(N5 d&&DR ds);rw[Mc ds]
theorem NT:∀ds:List D,i5 (ds.map DX.d)=aw ds|[]=>by simp[i5,aw]|d::ds=>by rw[dQ,i5,aw,NT ds,Py]
theorem Gb:∀pl:List Nat,DR (pl.map λi=>D.int (i:Nat))=true|[]=>rfl|i::pl=>Gb pl
theorem Gi:∀pl:List Nat,aw (pl.map λi=>D.int (i:Nat))=0|[]=>by simp[aw]|i::pl=>by rw[dQ,aw,Gi pl];simp[depth]
theorem Hj:∀rs:List A5,DR (rs.map Oa)=true|[]=>rfl|r::rs=>by show((DR (r.1.map λi=>D.int (i:Nat))&&(true&&true))&&DR (rs.map Oa))=true;rw[Hj rs,Gb];rfl
theorem FP:∀rs:List A5,aw (rs.map Oa)<=4|[]=>by simp[aw]|r::rs=>by rw[dQ,aw];refine Nat.max_le.mpr ⟨?_,FP rs⟩;unfold Oa XW;simp only[depth,aw,Gi];decide
theorem WO{H:Hp}{d:D}{b c:V}{Q:VK}{k:Bool}(wf:bz ar k d=true)(dp:depth d<=40)(f:Rep H d b)(g:Rep H d c)(q:Q (.bl true) H):Ku true b c H Q:=by
 have e:=Fn wf;obtain⟨x,ps,rfl⟩:=cz wf;refine⟨(KM.D.str x::ps).map DX.d,?_,?_,?_,?_,q⟩;·obtain⟨a,vs,e1,e2,e3⟩:=f;exact⟨a,vs,e1,e2,mE e3⟩
 ·obtain⟨a,vs,e1,e2,e3⟩:=g;exact⟨a,vs,e1,e2,mE e3⟩
 ·rw[Mc];exact e
 ·rw[NT];simp only[depth]at dp;omega
end K62
end
section
namespace K62
open PySem L2 L3 KM PyProof.Rows
seal L2.PE L2.PS L2.gR L2.PT L2.PW L2.PA L2.PG L2.zI L2.PI L2.PC L2.PO L2.E_ L2.PK L3.zD L3.PH L3.PB
variable{P:Program}{w:World}{K:PySem.W.Frag}{mg:Str->Option Value}{base:Heap}{t:wQ}
def Sz:Sp:=λvs H Q _=>∃n:Nat,vs=[.int (n:Nat)]/\n<=1000/\∀(v:V)(H':Hp),ay H H'->Rep H' (vC n) v->Q v H'
theorem eL:aC ["_law_many","_law_thing","_law_k"] ["_law_many"] (ai fk):=⟨rfl,rfl,rfl,by decide+kernel,rfl,by decide+kernel,by decide+kernel⟩
theorem ym(D:Df K mg "_law_number" fk ["_law_many"])(M:Mg mg t):bO P w K mg b_ "_law_number" (1) ["_law_many"] Sz:=by
 refine D.ok eL (λvs H Q E h=>?_) (λbase f bS A outer s H vs Q E y h=>?_);·obtain⟨n,rfl,_⟩:=h;rfl
 obtain⟨n,rfl,hn,q⟩:=h;refine⟨_,(aj (aR (i:=1) eL.nd rfl (dq rfl) (bJ (aa aN ah))) (aj (gD PassesOwn.never rfl (gJ rfl M.lR (aa (pv 0) ah)) (bx (i:=2) eL.nd rfl (dq rfl)) (ak (aR (i:=1) eL.nd rfl (dq rfl) (bJ (aa aN (aa (pv 1) ah)))))) (ak (aB (pv 1))))),?_⟩;try dsimp only[iG,x]
 refine xD ?_;intro _ _ _;refine⟨(gZ rfl),λc k=>?_⟩;have t1:=av k (.tup [V.str "zero"]);have m:Rep (upd H c (.tup [V.str "zero"])) (vC 0) (.ref c):=fe k (rs OJ r0);generalize upd H c (.tup [V.str "zero"])=r at t1 m⊢;refine⟨_,rfl,_,rfl,(by show-(2^62)<=((n:Nat):Int);omega),(by show((n:Nat):Int)<2^62;omega),?_⟩;let o:Nat->L2.St->Hp->Prop:=(λj e H'=>∃(u:V)(b:Option V),e=[some (.int (n:Nat)),some u,b]/\ay H H'/\Rep H' (vC j) u);refine iU (((n:Nat):Int)-0).toNat o ?_ ?_ ?_;·exact⟨_,none,rfl,t1,m⟩
 ·rintro j e g p⟨u,b,rfl,d,a⟩;refine⟨p,?_⟩;rintro B v⟨rfl,rfl⟩;refine⟨_,rfl,(gZ rfl),λz l=>?_⟩;exact⟨_,_,rfl,d.trans (av l _),fe l (rs OJ (rs a r0))⟩
 ·rintro e g⟨u,b,rfl,d,a⟩;refine⟨bf _,_,rfl,q u g d ?_⟩;rw[show(((n:Nat):Int)-0).toNat=n by omega]at a;exact a
theorem R7{H:Hp}{d:D}{v:V}{ds:List D}{vs:List V}(r:Rep H d v)(t:bg H ds vs):bg H (d::ds) (v::vs):=rs r t
theorem HL:∀n:Nat,wide (vC n)|0=>⟨by decide,trivial,trivial⟩|n+1=>⟨by show 2<=4000000;decide,trivial,HL n,trivial⟩
theorem Pe(rs:List A5):(rs.map Vs).map lgD=rs.map Oa:=by rw[List.map_map];refine List.map_congr_left λr _=>?_;show D.tup [QB (lJ r.1), .str r.2]=_;rw[Hy];rfl
theorem acg{H H':Hp}{a:Addr}{xs:List V}(h:bI K H a xs)(s:ay H H'):bI K H' a xs:=by
 rcases h with(h|⟨o,h⟩)|h;·exact .inl (.inl (s _ _ h))
 ·exact .inl (.inr ⟨o,s _ _ h⟩)
 ·exact .inr h
def GK(K:PySem.W.Frag)(T1 T2:Addr):Sp:=λvs H Q _=>∃(a:Addr)(ns:List Int),vs=[.ref a]/\bI K H a (ns.map V.int)/\ns.length<=63/\R1 H T1 T2/\∀H',Q (.bl true) H'
theorem f9:aC ["_law_script","_law_most","_law_one","_law_word","_law_other","_law_due","_law_term","_law_told"] ["_law_script"] (ai GN):=⟨rfl,rfl,rfl,by decide+kernel,rfl,by decide+kernel,by decide+kernel⟩
theorem YJ{f T1 T2:Addr}{fd:FuncData}(F:Om K "law" "law" GN f fd)(M:Mg mg t)(C:bO P w K mg b_ "_law_cell_at" (1) ["_law_script","_law_k"] (Em K))(ig:bO P w K mg b_ "_law_number" (1) ["_law_many"] Sz)(i9:bO P w K mg b_ "_law_alike" (60) ["_law_told","_law_due"] (rl 60))(tZ:bO P w K mg (c7 P w) "basics" (68) [] Cp)(Co:bO P w K mg (c7 P w) "normal" (129) ["thing","fuel","book"] (Cg t.cw t.Xn T1 T2))(MK:bO P w K mg (c7 P w) "walked" (129) ["thing","log","book"] (Gp t.bP t.iX t.cw T1 T2)):nA P w K mg base b_ 140 f fd ["_law_script"] (GK K T1 T2):=by
 refine F.ok f9 (λvs H Q E h=>?_) (λbS A outer s H vs Q E g h=>?_);·obtain⟨a,ns,rfl,_⟩:=h;rfl
 obtain⟨a,ns,rfl,hS,hlen,hT,q⟩:=h;have hu:=Bu g;have hh:=g.hd (by decide);have h84:=Wn g;refine⟨_,(aj (aR (i:=1) f9.nd rfl (dq rfl) au) (GS (bj (aG cx (cR uj (aV C g.m rfl bh (aa (pv 0) (aa au ah))) au) au (aJ _)) (ak (aR (i:=1) f9.nd rfl (dq rfl) au)) aK) (aj (aR (i:=2) f9.nd rfl (dq rfl) (cR uj (aV C g.m rfl bh (aa (pv 0) (aa au ah))) (cR gA (pv 1) au))) (aj (aR (i:=3) f9.nd rfl (dq rfl) (aZ eO (gy (aa aN (aa aN ah))) (cR uj (aV C g.m rfl bh (aa (pv 0) (aa au ah))) au) (λ_ _=>rfl))) (aj (aR (i:=4) f9.nd rfl (dq rfl) (cR uj (aV C g.m rfl bh (aa (pv 0) (aa au ah))) (cR gA (cR DW (pv 1) (pv 2)) au))) (aj (aR (i:=5) f9.nd rfl (dq rfl) (cR gA (pv 2) (pv 4))) (GS (bj (aG cx (pv 3) aN (aJ _)) (aj (aR (i:=4) f9.nd rfl (dq rfl) (cR uj (aV C g.m rfl bh (aa (pv 0) (aa au ah))) (cR gA (cR Pj (pv 1) (aM (J1 hh) rfl M.Ru LZ (aa (pv 2) (aa au ah)))) au))) (ak (aR (i:=5) f9.nd rfl (dq rfl) (cR VE (pv 2) (pv 4))))) aK) (aj (aR (i:=6) f9.nd rfl (dq rfl) (bJ (aa aN (aa (bJ (aa aN (aa (bJ (aa aN (aa (pv 3) ah))) (aa (aV ig g.m rfl bh (aa (pv 2) ah)) ah)))) (aa (aV ig g.m rfl bh (aa (pv 4) ah)) ah))))) (aj (aR (i:=7) f9.nd rfl (dq rfl) (aV Co g.m rfl wZ (aa (pv 6) (aa au (aa (Fc tZ g.m rfl wZ) ah))))) (aj (bj (fH (dz (aV i9 g.m rfl bh (aa (aZ aW (pv 7) au (λ_ _=>rfl)) (aa (aV ig g.m rfl bh (aa (pv 5) ah)) ah))))) (ak (aB xf)) aK) (aj (bj (aG oX (aM aF rfl M.cK bU (aa (aZ aW (pv 7) au (λ_ _=>rfl)) ah)) au (aJ _)) (ak (aB xf)) aK) (ak (aB (nH (cA (Na h84) (aV MK g.m rfl wZ (aa (pv 6) (aa (aZ aW (pv 7) au (λ_ _=>rfl)) (aa (Fc tZ g.m rfl wZ) ah)))) (aZ aW (pv 7) au (λ_ _=>rfl)) (aJ _)) (nU (cA (Na h84) (aV Co g.m rfl wZ (aa (pv 6) (aa (aM aF rfl M.cK bU (aa (aZ aW (pv 7) au (λ_ _=>rfl)) ah)) (aa (Fc tZ g.m rfl wZ) ah)))) (pv 7) (aJ _))))))))))))))))),?_⟩;try dsimp only[iG,cQ]
 refine pG ?_;intro _ _;refine⟨λL H'=>∃e:Nat,L=[some (.ref a),some (.int (e:Nat)),none,none,none,none,none,none]/\H'=H/\(e=6\/e=12),?_,?_⟩;·exact⟨_,rfl,a,ns,2,rfl,hS,_,_,rfl,rfl,(by show(0:Int)<4;decide),rfl,_,rfl,a_ (λ_=>⟨12,rfl,rfl, .inr rfl⟩) (λ_=>⟨6,rfl,rfl, .inl rfl⟩)⟩
 rintro L H'⟨e,rfl,rfl,hmo⟩;refine⟨_,rfl,a,ns,0,rfl,hS,_,rfl,_,_,rfl,rfl,_,_,rfl,rfl,(by omega),?_⟩;obtain⟨one,eo,ho⟩:∃one:Nat,cM ns 0%(((e:Nat):Int)+1)=((one:Nat):Int)/\one<=e:=⟨(cM ns 0%(((e:Nat):Int)+1)).toNat,by have :=Int.emod_nonneg (cM ns 0) (show(((e:Nat):Int)+1)≠0 by omega);omega,by have :=Int.emod_lt_of_pos (cM ns 0) (show(0:Int)<((e:Nat):Int)+1 by omega);omega⟩;show kx 2 (V.int (cM ns 0%(((e:Nat):Int)+1))) _ _ _;rw[eo];refine⟨(gZ rfl),λW e1=>?_⟩;have t1:=av e1 (.lst [V.str "plus", .str "times"]);obtain⟨x,hx,hxx⟩:∃x:Str,Du [V.str "plus", .str "times"] (cM ns 3%2)=some (.str x)/\(x="plus"\/x="times"):=by
  have c0:=Int.emod_nonneg (cM ns 3) (show(2:Int)≠0 by decide);have c1:=Int.emod_lt_of_pos (cM ns 3) (show(0:Int)<2 by decide);have :cM ns 3%2=0\/cM ns 3%2=1:=by omega
  rcases this with z|z<;>rw[z];·exact⟨"plus",rfl, .inl rfl⟩
  ·exact⟨"times",rfl, .inr rfl⟩
 have R:=acg hS t1;refine⟨_,rfl,a,ns,3,rfl,R,_,_,rfl,rfl,(by show(0:Int)<2;decide),W,_,_,_,rfl,rfl,bI.of aq,hx,?_⟩;have hT1:=hT.mono t1;generalize upd H' W (.lst [V.str "plus", .str "times"])=H1 at t1 R hT1⊢;refine⟨_,rfl,a,ns,1,rfl,R,_,rfl,_,rfl,_,_,rfl,rfl,_,_,rfl,rfl,_,_,rfl,rfl,(by omega),?_⟩;obtain⟨k,et,hot⟩:∃k:Nat,cM ns 1%(((e:Nat):Int)-((one:Nat):Int)+1)=((k:Nat):Int)/\k<=e-one:=⟨(cM ns 1%(((e:Nat):Int)-((one:Nat):Int)+1)).toNat,by have :=Int.emod_nonneg (cM ns 1) (show(((e:Nat):Int)-((one:Nat):Int)+1)≠0 by omega);omega,by have :=Int.emod_lt_of_pos (cM ns 1) (show(0:Int)<((e:Nat):Int)-((one:Nat):Int)+1 by omega);omega⟩;show kx 4 (V.int (cM ns 1%(((e:Nat):Int)-((one:Nat):Int)+1))) _ _ _;rw[et];refine⟨_,rfl,_,rfl,_,_,rfl,rfl,?_⟩;refine⟨λL H'=>∃(x:Str)(k c:Nat),L=[some (.ref a),some (.int (e:Nat)),some (.int (one:Nat)),some (.str x),some (.int (k:Nat)),some (.int (c:Nat)),none,none]/\H'=H1/\Z3 x one k c=true/\k<=12/\c<=24/\x.length<=1000,?_,?_⟩
 ·refine⟨_,rfl,rfl,_,rfl,a_ (λc=>?_) (λc=>?_)⟩
  ·have c:V.str x=V.str "times":=of_decide_eq_true c;cases c;have em:(if(1:Int)>((one:Nat):Int)then 1 else((one:Nat):Int))=((max one 1:Nat):Int):=by split<;>omega
   obtain⟨l,G⟩:∃l:Nat,e/max one 1=l:=⟨_,rfl⟩;have ed:((e:Nat):Int)/((max one 1:Nat):Int)=((l:Nat):Int):=by rw[<-G];rfl
   refine⟨_,rfl,a,ns,1,rfl,R,_,rfl,_,rfl,_,_,rfl,_,_,rfl,rfl,?_,_,_,rfl,rfl,_,_,rfl,rfl,?_,?_⟩;·rw[em];exact⟨by omega,by omega⟩
   ·show 0<((e:Nat):Int)/(if(1:Int)>((one:Nat):Int)then 1 else((one:Nat):Int))+1;rw[em,ed];omega
   show kx 4 (V.int (cM ns 1%(((e:Nat):Int)/(if(1:Int)>((one:Nat):Int)then 1 else((one:Nat):Int))+1))) _ _ _;rw[em,ed];obtain⟨m,e2,h2⟩:∃m:Nat,cM ns 1%(((l:Nat):Int)+1)=((m:Nat):Int)/\m<=l:=⟨(cM ns 1%(((l:Nat):Int)+1)).toNat,by have :=Int.emod_nonneg (cM ns 1) (show(((l:Nat):Int)+1)≠0 by omega);omega,by have :=Int.emod_lt_of_pos (cM ns 1) (show(0:Int)<((l:Nat):Int)+1 by omega);omega⟩;rw[e2];have d1:l<=e:=G▸Nat.div_le_self e (max one 1);have d2:one*m<=e:=cq (Nat.mul_le_mul (Nat.le_max_left one 1) (G▸h2)) (Nat.mul_div_le e (max one 1));have d3:l<=12/max one 1:=G▸Nat.div_le_div_right (by omega);obtain⟨c,hc⟩:∃c:Nat,one*m=c:=⟨_,rfl⟩;have hm:((one:Nat):Int)*((m:Nat):Int)=((c:Nat):Int):=by rw[<-hc];rfl
   have d4:=Nat.lt_succ_of_le (cq h2 d3);have d5:c<=e:=hc▸d2;clear d2 d3 ed G em;refine⟨_,rfl,_,rfl,_,_,rfl,rfl, .inl ⟨by omega,by omega⟩,"times",m,c,by show[_,_,_,_,_,some (V.int (((one:Nat):Int)*((m:Nat):Int))),_,_]=_;rw[hm],rfl,?_,by omega,by omega,by decide+kernel⟩;rw[<-hc];exact List.all_eq_true.mp (List.all_eq_true.mp X6 one (List.mem_range.mpr (by omega))) m (List.mem_range.mpr d4)
  ·have xp:x="plus":=hxx.resolve_right λz=>c (decide_eq_true (by rw[z]));subst xp;refine⟨"plus",k,one+k,rfl,rfl,?_,by omega,by omega,by decide+kernel⟩;have :=List.all_eq_true.mp (List.all_eq_true.mp sums one (List.mem_range.mpr (by omega))) k (List.mem_range.mpr (by omega));exact this
 clear hxx hx x;rintro L H'⟨x,k,c,rfl,rfl,bK,hot,hc,lx⟩;have aal:one<=12:=by omega
 obtain⟨rs,lrs,wk,run⟩:=comes bK aal hot;obtain⟨c1,c2,c3⟩:=mh c;have td:=KC (x:=x) aal hot;have tdp:=td.dp;refine⟨_,rfl,(gZ rfl),λo e1=>?_⟩;have u1:=av e1 (.tup [V.str "name", .str x]);have f1:Rep (upd H' o (.tup [V.str "name", .str x])) (.tup [.str "name", .str x]) (.ref o):=fe e1 (R7 OJ (R7 ⟨rfl,lx⟩ r0));generalize upd H' o (.tup [V.str "name", .str x])=H2 at u1 f1⊢;refine⟨_,rfl,one,rfl,by omega,λv1 H3 s3 r3=>⟨(gZ rfl),λp e2=>?_⟩⟩;have u2:=av e2 (.tup [V.str "app", .ref o,v1]);have f2:Rep (upd H3 p (.tup [V.str "app", .ref o,v1])) (.tup [.str "app", .tup [.str "name", .str x],vC one]) (.ref p):=fe e2 (R7 OJ (R7 (f1.mono s3) (R7 r3 r0)));generalize upd H3 p (.tup [V.str "app", .ref o,v1])=H4 at u2 f2⊢;refine⟨_,rfl,k,rfl,by omega,λv2 H5 s5 r5=>⟨(gZ rfl),λr e3=>?_⟩⟩;have u3:=av e3 (.tup [V.str "app", .ref p,v2]);have S:Rep (upd H5 r (.tup [V.str "app", .ref p,v2])) (ud x one k) (.ref r):=fe e3 (R7 OJ (R7 (f2.mono s5) (R7 r5 r0)));have T:=hT1.mono (u1.trans (s3.trans (u2.trans (s5.trans u3))));generalize upd H5 r (.tup [V.str "app", .ref p,v2])=H6 at u3 S T⊢;have rz:Rz (ud x one k) 60:=⟨td.wf,by omega,dA _⟩;have inb:∀{aE:List (Key×V)}{H:Hp}{b:Addr},Bi H b aE 9->g6 aE=jc:=λB=>funext λy=>(B.is y).trans (by rw[show e8.take 9=e8 from rfl];rfl);refine⟨_,rfl,rfl,λb aE H7 J nb7 O=>?_⟩;refine⟨Bf,ud x one k, .ref r,1000,b,aE,rs, .ok (vC c),rfl,S.mono J,rz,O.hb,O.br,by rw[inb O];exact run 1000 (by omega),by omega,T.mono J,λd' n U us u H8 er s8 hp8 abG rl8 ru8 _=>?_,(λz=>by cases z),(λz=>by cases z)⟩;cases er;have hT8:=(T.mono J).mono s8;have f8:=(S.mono J).mono s8;clear J nb7 O T S s8;refine⟨_,rfl,n,_,_,_,rfl,rfl,bQ.of hp8,aH (j:=0) rfl,_,rfl,c,rfl,by omega,λvc H9 Z r9=>?_⟩;have hp9:=Z _ _ hp8;have hl9:=Z _ _ abG;refine⟨vC c,u,vc,rfl,ru8.mono Z,r9,HL c,by omega,λXp IT=>⟨_,rfl,ff ?_⟩⟩;have LV:=IT _ _ hp9;have I_:=IT _ _ hl9;have Y:=Z.trans IT;have XU:=rl8.mono Y;have abI:=ru8.mono Y;have Xe:=XU.length;rw[cy]at Xe;refine⟨_,rfl,n,_,_,_,rfl,rfl,bQ.of LV,aH (j:=1) rfl,U,us,rfl, .inl (bI.of I_),_,_,rfl,rfl,_,rfl,a_ (λ_=>q _) (λ_=>?_)⟩;refine⟨_,rfl,_,rfl,n,_,_,_,rfl,rfl,bQ.of LV,aH (j:=1) rfl,rfl,λb aE H11 v acP N=>?_⟩;have ZN:=(hT8.mono Y).mono v;have f11:=(f8.mono Y).mono v;have Uu:=v _ _ LV;have WD:=v _ _ I_;have aav:=XU.mono v;have aaC:=abI.mono v;refine⟨Bf,ud x one k, .ref r,b,U,aE,rs.map Vs,us,rfl, .inl WD,⟨f11,td,by rw[Pe];exact aav,N.hb,N.br,by rw[inb N];exact bk9,ZN⟩,λz H12 d' I D _ r12=>?_,λH12 _ D=>?_,λH12 _ D=>?_,λH12 _ D=>?_⟩;rotate_left;all_goals rw[inb N,wk]at D
 all_goals cases D
 refine⟨_,rfl,n,_,_,_,rfl,rfl,bQ.of (I _ _ Uu),aH (j:=0) rfl,WO c1 (by omega) r12 (aaC.mono I) ⟨_,rfl,a_ (λ_=>?_) (λz=>absurd rfl z)⟩⟩;have abm:=I _ _ Uu;have abR:=I _ _ WD;refine⟨_,rfl,_,rfl,n,_,_,_,rfl,rfl,bQ.of abm,aH (j:=1) rfl,U,us,rfl, .inl (bI.of abR),rfl,λb2 abh H13 sV acV B13=>?_⟩;have LF:=I.trans sV;refine⟨Bf,ud x one k, .ref r,us.length,b2,abh,rs, .ok (vC c),rfl,f11.mono LF,rz,B13.hb,B13.br,by rw[inb B13];exact run us.length (by omega),by omega,ZN.mono LF,λd' W lg1 us1 u1' H14 er DF abf ZS abp acf _=>?_,(λz=>by cases z),(λz=>by cases z)⟩;cases er;have X:=LF.trans DF;refine⟨_,rfl,[.d (vC c), .lst ((rs.map Oa).map DX.d)],⟨W,_,rfl,abf,_,_,rfl,acf,_,_,rfl,⟨lg1,us1,rfl,ZS,mE abp⟩,rfl⟩,⟨n,_,rfl,X _ _ Uu,_,_,rfl,aaC.mono X,_,_,rfl,⟨U,us,rfl,X _ _ WD,mE (aav.mono X)⟩,rfl⟩,?_,?_,q _⟩;·show(N5 (vC c)&&(AB ((rs.map Oa).map DX.d)&&true))=true;rw[Fn c1,Mc,Hj];rfl
 ·have :=FP rs;simp only[i5,Py,NT];omega
end K62
end
section
namespace K62
open PySem L2 L3 KM
theorem Ui{P:Program}{w:World}{K:PySem.W.Frag}{mg:Str->Option Value}{t:wQ}(D:Df K mg "_law_cell_at" dD ["_law_script","_law_k"])(M:Mg mg t):bO P w K mg b_ "_law_cell_at" (1) ["_law_script","_law_k"] (Em K):=by obtain⟨f,fd,F,m,b⟩:=D;exact⟨f,fd,λbase=>PM F M.cK,m,F.kp,b⟩
theorem Uj{P:Program}{w:World}{K:PySem.W.Frag}{mg:Str->Option Value}{C:Addr}{x:Str}{k:Nat}{ps:List Str}{sp:Sp}(F:jK P w K mg b_ C "__init__" k ps sp)(N:PySem.W.makesIn K C=true/\PySem.W.keepIn K (.ref C)=true)(m:mg x=some (.ref C)):Ph P w K mg x C k ps sp:=by obtain⟨f,fd,F,M,b⟩:=F;exact⟨f,fd,F,⟨N.1,M.at_,M.fn,N.2⟩,m,b⟩
structure Txt(K:PySem.W.Frag)(mg:Str->Option Value)(t:wQ):Prop where
 M:Mg mg t
 B6:Df K mg "is_number" gu ["value"]
 Jq:Df K mg "is_name" gW ["value"]
 Js:Df K mg "is_vast" gH ["value"]
 JI:Df K mg "kids_of" jI ["thing"]
 EB:Df K mg "binds_of" fW ["thing"]
 i3:Df K mg "top_variable" cC ["thing"]
 wY:Df K mg "bounded" jE ["thing"]
 Jd:Df K mg "rebuilt" jy ["thing","kids"]
 DQ:Df K mg "words_of" fL ["text"]
 IW:Df K mg "form_of" jx ["head"]
 vQ:Df K mg "thing_named" eN ["word","forms","names"]
 CU:Df K mg "is_figure" eX ["word"]
 Ef:Df K mg "count_of" il ["number"]
 JY:Df K mg "leaf_of" jC ["word","forms","names"]
 AL:Df K mg "read_thing" fw ["text","names","due"]
 A7:Df K mg "read_term" gp ["text","names"]
 CV:Df K mg "read_kind" gg ["text","names"]
 Nh:Df K mg "basics" lO []
 Mq:Df K mg "kid_at" mO ["thing","number"]
 DZ:Df K mg "at_place" ir ["thing","place"]
 AH:Df K mg "changed_at" dW ["thing","place","new"]
 IM:Df K mg "with_at" jH ["thing","place","new"]
 o8:Df K mg "with_free" dI ["thing","binders","change"]
 J8:Df K mg "raised" js ["thing","by","low"]
 Lk:Df K mg "put_in" iV ["thing","other","at"]
 Jw:Df K mg "rule_of" jA ["thing","book"]
 An:Df K mg "after_next" e9 ["thing"]
 zT:Df K mg "after_rule" fj ["thing","rule","book"]
 Jb:Df K mg "stepped" ju ["thing","place","book"]
 zQ:Df K mg "first_step" dX ["thing","book"]
 Ly:Df K mg "normal" lh ["thing","fuel","book"]
 MQ:Df K mg "walked" lu ["thing","log","book"]
 vK:Df K mg "_law_cell_at" dD ["_law_script","_law_k"]
 CJ:Df K mg "_law_alike" dN ["_law_told","_law_due"]
 yD:Df K mg "_law_number" fk ["_law_many"]
 aaE:Df K mg "law" GN ["_law_script"]
 zX:m4 K t.g7 [.str "nat", .str "none", .str "all", .str "some", .str "same"]
 EL:∃as,KD K t.iY [("nat",[]),("none",[]),("all",[.str "kind", .str "kind"]),("some",[.str "kind", .str "kind"]),("same",[.str "kind", .str "term", .str "term"]),("var",[]),("fun",[.str "kind", .str "term"]),("app",[.str "term", .str "term"]),("zero",[]),("next",[.str "term"]),("rec",[.str "kind", .str "term", .str "term", .str "term"]),("like",[.str "kind", .str "term"]),("carry",[.str "kind", .str "term", .str "term"]),("never",[.str "kind", .str "term"]),("pair",[.str "kind", .str "term", .str "term"]),("first",[.str "term"]),("second",[.str "term"]),("name",[])] as
 gG:iy K t.eV [("all", .int 1),("some", .int 1),("fun", .int 1),("rec", .int 0),("carry", .int 0)]
 UY:ZC K t.QS e8
 Ox:Rul K t.HY
 aL:oJ K t.Form
 Vd:PySem.W.makesIn K t.Form=true/\PySem.W.keepIn K (.ref t.Form)=true
 B9:Dm K t.Form "__init__" "Form.__init__" cG ["self","word","name","due"]
 md:Dm K t.Form "binds_here" "Form.binds_here" bw ["self"]
 vd:Dm K t.Form "is_full" "Form.is_full" bN ["self"]
 Bd:Dm K t.Form "take" "Form.take" cH ["self","thing"]
 vT:Dm K t.Form "closed" "Form.closed" bW ["self"]
 X:Ek K t
theorem txt_mk{K:PySem.W.Frag}{h:Heap}{mg:Str->Option Value}(X:K.In h)(G:h.Ns mainGlobals mg){vF:Tok}{yL:Tok}{nD:Tok}{pI:Tok}{Eg:Tok}{L:Addr}{vM:Option Addr}{km:Array Value}{vJ:Nat}{vL:Array (Option Value)}{D:Addr}{F:Array DictEntry}{C0:Nat}{Q oo oQ ow oV og nZ o_ oy ou R S T U V W Y Z:Addr}{zJ:Option Addr}{mZ:Array Value}{yp:Nat}{zf:Array (Option Value)}{AN:Option Addr}{mj:Array Value}{zw:Nat}{Ap:Array (Option Value)}{zO:Option Addr}{mB:Array Value}{AY:Nat}{zG:Array (Option Value)}{zE:Option Addr}{lK:Array Value}{Aq:Nat}{za:Array (Option Value)}{zH:Option Addr}{mV:Array Value}{z9:Nat}{yM:Array (Option Value)}{AJ:Option Addr}{mU:Array Value}{Ar:Nat}{Ab:Array (Option Value)}{Af:Option Addr}{lC:Array Value}{x_:Nat}{zt:Array (Option Value)}{yS:Option Addr}{lD:Array Value}{yj:Nat}{yn:Array (Option Value)}{BB:Option Addr}{oW:Array Value}{Dz:Nat}{A_:Array (Option Value)}{CF:Option Addr}{oj:Array Value}{Ck:Nat}{CD:Array (Option Value)}{CW:Option Addr}{oI:Array Value}{CY:Nat}{Cs:Array (Option Value)}{CI:Option Addr}{oC:Array Value}{Bs:Nat}{BP:Array (Option Value)}{CQ:Option Addr}{n_:Array Value}{CZ:Nat}{C1:Array (Option Value)}{Bw:Option Addr}{pb:Array Value}{Cw:Nat}{CG:Array (Option Value)}{B3:Option Addr}{n6:Array Value}{BU:Nat}{Dg:Array (Option Value)}{Dl:Option Addr}{oS:Array Value}{BV:Nat}{Cm:Array (Option Value)}{Cf:Option Addr}{oG:Array Value}{BW:Nat}{Bp:Array (Option Value)}{Ci:Option Addr}{oY:Array Value}{BS:Nat}{Br:Array (Option Value)}{C:Addr}{iM:Array DictEntry}{uG:Nat}{D3:Tok}{uA:Tok}{P:Addr}{Rf:Option Addr}{F9:Array Value}{Q0:Nat}{Q6:Array (Option Value)}{j n q u x y z A B:Addr}{Rn:Option Addr}{Fy:Array Value}{O9:Nat}{QX:Array (Option Value)}{P0 Oy Qk:Tok}{QE:Option Addr}{Ih:Array Value}{OC:Nat}{Qm:Array (Option Value)}{Ra OY Pp:Tok}{OK:Option Addr}{FQ:Array Value}{Rc:Nat}{OX:Array (Option Value)}{Qi QT OU:Tok}{PD:Option Addr}{Gs:Array Value}{OV:Nat}{OH:Array (Option Value)}{P6 PL P_:Tok}{QP:Option Addr}{Gy:Array Value}{QY:Nat}{Ro:Array (Option Value)}{OW Pb Pl:Tok}{Pk:Option Addr}{FD:Array Value}{Qj:Nat}{QF:Array (Option Value)}{Pu QA Ot:Tok}{Pr:Option Addr}{GB:Array Value}{PF:Nat}{O2:Array (Option Value)}{Qt OD Ou:Tok}{OM:Option Addr}{Hl:Array Value}{OT:Nat}{QO:Array (Option Value)}{Q_ QL Ov:Tok}{QJ:Option Addr}{Fx:Array Value}{Px:Nat}{OP:Array (Option Value)}{O7 O3 Qw:Tok}{E:Addr}{H:Array DictEntry}{K3:Nat}{i m p s w:Addr}{g:Addr}{NY:Option Addr}{Cz:Array Value}{M3:Nat}{LM:Array (Option Value)}{Fi:Option Addr}{tY:Array Value}{DO:Nat}{D7:Array (Option Value)}{k l:Addr}{MA:Option Addr}{Bq:Array Value}{NI:Nat}{LK:Array (Option Value)}{Ep:Option Addr}{ve:Array Value}{EW:Nat}{E9:Array (Option Value)}{D5:Option Addr}{vx:Array Value}{EI:Nat}{EG:Array (Option Value)}{o:Addr}{Md:Option Addr}{CS:Array Value}{KL:Nat}{MT:Array (Option Value)}{D_:Option Addr}{uW:Array Value}{Ei:Nat}{En:Array (Option Value)}{r:Addr}{Lc:Option Addr}{C5:Array Value}{Lz:Nat}{Kv:Array (Option Value)}{Ey:Option Addr}{tM:Array Value}{EH:Nat}{ET:Array (Option Value)}{v:Addr}{KA:Option Addr}{CN:Array Value}{Kj:Nat}{KG:Array (Option Value)}{EF:Option Addr}{uF:Array Value}{Ew:Nat}{Ff:Array (Option Value)}{J:Addr}{M:Addr}{N:Addr}{I:Addr}{O:Addr}{a:Addr}{d:Addr}{Ad zA:Option Addr}{AG:Array (Option Value)}{AD zz zm y_ lN AM:Value}{b:Addr}{kC kz:Option Addr}{kM:Array (Option Value)}{kZ kR kN kQ fE kA:Value}{e:Addr}{pD pq:Option Addr}{pk:Array (Option Value)}{pJ pC pO pE iz pz:Value}{f:Addr}{yr xK:Option Addr}{AS:Array (Option Value)}{zC xN zd zo lp zg:Value}{c:Addr}{vp tV:Option Addr}{ux:Array (Option Value)}{uc uq vn u9 i6 uI:Value}(a0:cJ K "is_number" gu)(a1:cJ K "is_name" gW)(a2:cJ K "is_vast" gH)(a3:cJ K "kids_of" jI)(a4:cJ K "binds_of" fW)(a5:cJ K "top_variable" cC)(a6:cJ K "bounded" jE)(a7:cJ K "rebuilt" jy)(a8:cJ K "words_of" fL)(a9:cJ K "form_of" jx)(a10:cJ K "thing_named" eN)(a11:cJ K "is_figure" eX)(a12:cJ K "count_of" il)(a13:cJ K "leaf_of" jC)(a14:cJ K "read_thing" fw)(a15:cJ K "read_term" gp)(a16:cJ K "read_kind" gg)(a17:cJ K "basics" lO)(a18:cJ K "kid_at" mO)(a19:cJ K "at_place" ir)(a20:cJ K "changed_at" dW)(a21:cJ K "with_at" jH)(a22:cJ K "with_free" dI)(a23:cJ K "raised" js)(a24:cJ K "put_in" iV)(a25:cJ K "rule_of" jA)(a26:cJ K "after_next" e9)(a27:cJ K "after_rule" fj)(a28:cJ K "stepped" ju)(a29:cJ K "first_step" dX)(a30:cJ K "normal" lh)(a31:cJ K "walked" lu)(a32:cJ K "_law_cell_at" dD)(a33:cJ K "_law_alike" dN)(a34:cJ K "_law_number" fk)(a35:cJ K "law" GN)(z_all:PySem.W.nsIn K mainGlobals "all"=some none)(z_bool:PySem.W.nsIn K mainGlobals "bool"=some none)(z_enumerate:PySem.W.nsIn K mainGlobals "enumerate"=some none)(z_int:PySem.W.nsIn K mainGlobals "int"=some none)(z_isinstance:PySem.W.nsIn K mainGlobals "isinstance"=some none)(z_len:PySem.W.nsIn K mainGlobals "len"=some none)(z_list:PySem.W.nsIn K mainGlobals "list"=some none)(z_max:PySem.W.nsIn K mainGlobals "max"=some none)(z_range:PySem.W.nsIn K mainGlobals "range"=some none)(z_reversed:PySem.W.nsIn K mainGlobals "reversed"=some none)(z_str:PySem.W.nsIn K mainGlobals "str"=some none)(z_tuple:PySem.W.nsIn K mainGlobals "tuple"=some none)(z_zip:PySem.W.nsIn K mainGlobals "zip"=some none)(g_MOST_KNOTS:PySem.W.nsIn K mainGlobals "MOST_KNOTS"=some (some (.int 600 vF)))(g_MOST_DEEP:PySem.W.nsIn K mainGlobals "MOST_DEEP"=some (some (.int 40 yL)))(g_MOST_VARIABLE:PySem.W.nsIn K mainGlobals "MOST_VARIABLE"=some (some (.int 99 nD)))(g_MOST_LETTERS:PySem.W.nsIn K mainGlobals "MOST_LETTERS"=some (some (.int 12 pI)))(g_LETTERS:PySem.W.nsIn K mainGlobals "LETTERS"=some (some (.str "abcdefghijklmnopqrstuvwxyz" Eg)))(g_KIND_WORDS:PySem.W.nsIn K mainGlobals "KIND_WORDS"=some (some (.ref L)))(lk_KIND_WORDS:K.lookup L=some ⟨.type "tuple",vM, .seq km vJ,vL⟩)(vs_KIND_WORDS:bL [.str "nat", .str "none", .str "all", .str "some", .str "same"] km=true)(g_KIDS_DUE:PySem.W.nsIn K mainGlobals "KIDS_DUE"=some (some (.ref D)))(lk_KIDS_DUE:K.lookup D=some ⟨.type "dict",none, .dict F C0,#[]⟩)(sy_KIDS_DUE:(D==sysModules)=false)(ks_KIDS_DUE:fh F.toList ["nat","none","all","some","same","var","fun","app","zero","next","rec","like","carry","never","pair","first","second","name"]=true)(rf_KIDS_DUE:refsOf F.toList=[Q,oo,oQ,ow,oV,og,nZ,o_,oy,ou,R,S,T,U,V,W,Y,Z])(u0_KIDS_DUE:K.lookup Q=some ⟨.type "tuple",Ci, .seq oY BS,Br⟩)(v0_KIDS_DUE:bL [] oY=true)(u1_KIDS_DUE:K.lookup oo=some ⟨.type "tuple",Cf, .seq oG BW,Bp⟩)(v1_KIDS_DUE:bL [] oG=true)(u2_KIDS_DUE:K.lookup oQ=some ⟨.type "tuple",Dl, .seq oS BV,Cm⟩)(v2_KIDS_DUE:bL [.str "kind", .str "kind"] oS=true)(u3_KIDS_DUE:K.lookup ow=some ⟨.type "tuple",B3, .seq n6 BU,Dg⟩)(v3_KIDS_DUE:bL [.str "kind", .str "kind"] n6=true)(u4_KIDS_DUE:K.lookup oV=some ⟨.type "tuple",Bw, .seq pb Cw,CG⟩)(v4_KIDS_DUE:bL [.str "kind", .str "term", .str "term"] pb=true)(u5_KIDS_DUE:K.lookup og=some ⟨.type "tuple",CQ, .seq n_ CZ,C1⟩)(v5_KIDS_DUE:bL [] n_=true)(u6_KIDS_DUE:K.lookup nZ=some ⟨.type "tuple",CI, .seq oC Bs,BP⟩)(v6_KIDS_DUE:bL [.str "kind", .str "term"] oC=true)(u7_KIDS_DUE:K.lookup o_=some ⟨.type "tuple",CW, .seq oI CY,Cs⟩)(v7_KIDS_DUE:bL [.str "term", .str "term"] oI=true)(u8_KIDS_DUE:K.lookup oy=some ⟨.type "tuple",CF, .seq oj Ck,CD⟩)(v8_KIDS_DUE:bL [] oj=true)(u9_KIDS_DUE:K.lookup ou=some ⟨.type "tuple",BB, .seq oW Dz,A_⟩)(v9_KIDS_DUE:bL [.str "term"] oW=true)(u10_KIDS_DUE:K.lookup R=some ⟨.type "tuple",yS, .seq lD yj,yn⟩)(v10_KIDS_DUE:bL [.str "kind", .str "term", .str "term", .str "term"] lD=true)(u11_KIDS_DUE:K.lookup S=some ⟨.type "tuple",Af, .seq lC x_,zt⟩)(v11_KIDS_DUE:bL [.str "kind", .str "term"] lC=true)(u12_KIDS_DUE:K.lookup T=some ⟨.type "tuple",AJ, .seq mU Ar,Ab⟩)(v12_KIDS_DUE:bL [.str "kind", .str "term", .str "term"] mU=true)(u13_KIDS_DUE:K.lookup U=some ⟨.type "tuple",zH, .seq mV z9,yM⟩)(v13_KIDS_DUE:bL [.str "kind", .str "term"] mV=true)(u14_KIDS_DUE:K.lookup V=some ⟨.type "tuple",zE, .seq lK Aq,za⟩)(v14_KIDS_DUE:bL [.str "kind", .str "term", .str "term"] lK=true)(u15_KIDS_DUE:K.lookup W=some ⟨.type "tuple",zO, .seq mB AY,zG⟩)(v15_KIDS_DUE:bL [.str "term"] mB=true)(u16_KIDS_DUE:K.lookup Y=some ⟨.type "tuple",AN, .seq mj zw,Ap⟩)(v16_KIDS_DUE:bL [.str "term"] mj=true)(u17_KIDS_DUE:K.lookup Z=some ⟨.type "tuple",zJ, .seq mZ yp,zf⟩)(v17_KIDS_DUE:bL [] mZ=true)(g_BINDER_OVER:PySem.W.nsIn K mainGlobals "BINDER_OVER"=some (some (.ref C)))(lk_BINDER_OVER:K.lookup C=some ⟨.type "dict",none, .dict iM uG,#[]⟩)(sy_BINDER_OVER:(C==sysModules)=false)(vs_BINDER_OVER:hI iM.toList [("all",1),("some",1),("fun",1),("rec",0),("carry",0)]=true)(g_FIGURES:PySem.W.nsIn K mainGlobals "FIGURES"=some (some (.str "0123456789" D3)))(g_MOST_FIGURE:PySem.W.nsIn K mainGlobals "MOST_FIGURE"=some (some (.int 39 uA)))(g_TOLD:PySem.W.nsIn K mainGlobals "TOLD"=some (some (.ref P)))(lk_TOLD:K.lookup P=some ⟨.type "tuple",Rf, .seq F9 Q0,Q6⟩)(vs_TOLD:F9.toList=[Value.ref j,Value.ref n,Value.ref q,Value.ref u,Value.ref x,Value.ref y,Value.ref z,Value.ref A,Value.ref B])(u0_TOLD:K.lookup j=some ⟨.type "tuple",Rn, .seq Fy O9,QX⟩)(v0_TOLD:Fy.toList=[.str "plus" P0, .str "(all a nat (all b nat nat))" Oy, .str "\n(fun a nat (fun b nat\n    (rec x nat a (fun n nat (fun r nat (next r))) b)))\n" Qk])(u1_TOLD:K.lookup n=some ⟨.type "tuple",QE, .seq Ih OC,Qm⟩)(v1_TOLD:Ih.toList=[.str "times" Ra, .str "(all a nat (all b nat nat))" OY, .str "\n(fun a nat (fun b nat\n    (rec x nat 0\n        (app (fun c nat (fun n nat (fun r nat (rec y nat r (fun m nat (fun q nat (next q))) c)))) a)\n        b)))\n" Pp])(u2_TOLD:K.lookup q=some ⟨.type "tuple",OK, .seq FQ Rc,OX⟩)(v2_TOLD:FQ.toList=[.str "turnabout" Qi, .str "(all a nat (all b nat (all e (same nat a b) (same nat b a))))" QT, .str "\n(fun a nat (fun b nat (fun e (same nat a b)\n    (carry x (same nat x a) (like nat a) e))))\n" OU])(u3_TOLD:K.lookup u=some ⟨.type "tuple",PD, .seq Gs OV,OH⟩)(v3_TOLD:Gs.toList=[.str "through" P6, .str "(all a nat (all b nat (all c nat (all d (same nat a b) (all e (same nat b c) (same nat a c))))))" PL, .str "\n(fun a nat (fun b nat (fun c nat (fun d (same nat a b) (fun e (same nat b c)\n    (carry x (same nat a x) d e))))))\n" P_])(u4_TOLD:K.lookup x=some ⟨.type "tuple",QP, .seq Gy QY,Ro⟩)(v4_TOLD:Gy.toList=[.str "nexts" OW, .str "(all a nat (all b nat (all e (same nat a b) (same nat (next a) (next b)))))" Pb, .str "\n(fun a nat (fun b nat (fun e (same nat a b)\n    (carry x (same nat (next a) (next x)) (like nat (next a)) e))))\n" Pl])(u5_TOLD:K.lookup y=some ⟨.type "tuple",Pk, .seq FD Qj,QF⟩)(v5_TOLD:FD.toList=[.str "pluszero" Pu, .str "(all a nat (same nat (app (app plus a) 0) a))" QA, .str "\n(fun a nat (like nat a))\n" Ot])(u6_TOLD:K.lookup z=some ⟨.type "tuple",Pr, .seq GB PF,O2⟩)(v6_TOLD:GB.toList=[.str "plusnext" Qt, .str "(all a nat (all b nat (same nat (app (app plus a) (next b)) (next (app (app plus a) b)))))" OD, .str "\n(fun a nat (fun b nat\n    (like nat (next (app (app plus a) b)))))\n" Ou])(u7_TOLD:K.lookup A=some ⟨.type "tuple",OM, .seq Hl OT,QO⟩)(v7_TOLD:Hl.toList=[.str "commutes" Q_, .str "(all a nat (all b nat (same nat (app (app plus a) b) (app (app plus b) a))))" QL, .str "\n(fun a nat (fun b nat\n    (rec x (same nat (app (app plus a) x) (app (app plus x) a))\n        (rec y (same nat y (app (app plus 0) y))\n            (like nat 0)\n            (fun m nat (app (app nexts m) (app (app plus 0) m)))\n            a)\n        (fun n nat (fun h (same nat (app (app plus a) n) (app (app plus n) a))\n            (carry z (same nat (next (app (app plus a) n)) z)\n                (app (app (app nexts (app (app plus a) n)) (app (app plus n) a)) h)\n                (rec y (same nat (next (app (app plus n) y)) (app (app plus (next n)) y))\n                    (like nat (next n))\n                    (fun m nat (app (app nexts (next (app (app plus n) m))) (app (app plus (next n)) m)))\n                    a))))\n        b)))\n" Ov])(u8_TOLD:K.lookup B=some ⟨.type "tuple",QJ, .seq Fx Px,OP⟩)(v8_TOLD:Fx.toList=[.str "doubled" O7, .str "(all a nat (some b nat (same nat b (app (app plus a) a))))" O3, .str "\n(fun a nat\n    (pair (some b nat (same nat b (app (app plus a) a)))\n        (app (app plus a) a)\n        (like nat (app (app plus a) a))))\n" Qw])(g_RULES:PySem.W.nsIn K mainGlobals "RULES"=some (some (.ref E)))(lk_RULES:K.lookup E=some ⟨.type "dict",none, .dict H K3,#[]⟩)(sy_RULES:(E==sysModules)=false)(ks_RULES:fh H.toList ["app","rec","carry","first","second"]=true)(rf_RULES:refsOf H.toList=[i,m,p,s,w])(u0_RULES:K.lookup i=some ⟨.type "tuple",NY, .seq Cz M3,LM⟩)(v0_RULES:Cz.toList=[Value.ref g])(u0_0_RULES:K.lookup g=some ⟨.type "tuple",Fi, .seq tY DO,D7⟩)(v0_0_RULES:bL [.int 1, .str "fun", .str "fun"] tY=true)(u1_RULES:K.lookup m=some ⟨.type "tuple",MA, .seq Bq NI,LK⟩)(v1_RULES:Bq.toList=[Value.ref k,Value.ref l])(u1_0_RULES:K.lookup k=some ⟨.type "tuple",Ep, .seq ve EW,E9⟩)(v1_0_RULES:bL [.int 4, .str "zero", .str "zero"] ve=true)(u1_1_RULES:K.lookup l=some ⟨.type "tuple",D5, .seq vx EI,EG⟩)(v1_1_RULES:bL [.int 4, .str "next", .str "next"] vx=true)(u2_RULES:K.lookup p=some ⟨.type "tuple",Md, .seq CS KL,MT⟩)(v2_RULES:CS.toList=[Value.ref o])(u2_0_RULES:K.lookup o=some ⟨.type "tuple",D_, .seq uW Ei,En⟩)(v2_0_RULES:bL [.int 3, .str "like", .str "like"] uW=true)(u3_RULES:K.lookup s=some ⟨.type "tuple",Lc, .seq C5 Lz,Kv⟩)(v3_RULES:C5.toList=[Value.ref r])(u3_0_RULES:K.lookup r=some ⟨.type "tuple",Ey, .seq tM EH,ET⟩)(v3_0_RULES:bL [.int 1, .str "pair", .str "first"] tM=true)(u4_RULES:K.lookup w=some ⟨.type "tuple",KA, .seq CN Kj,KG⟩)(v4_RULES:CN.toList=[Value.ref v])(u4_0_RULES:K.lookup v=some ⟨.type "tuple",EF, .seq uF Ew,Ff⟩)(v4_0_RULES:bL [.int 1, .str "pair", .str "second"] uF=true)(g_Great:PySem.W.nsIn K mainGlobals "Great"=some (some (.ref J)))(g_NoPlace:PySem.W.nsIn K mainGlobals "NoPlace"=some (some (.ref M)))(g_NoStep:PySem.W.nsIn K mainGlobals "NoStep"=some (some (.ref N)))(g_Dry:PySem.W.nsIn K mainGlobals "Dry"=some (some (.ref I)))(g_NoText:PySem.W.nsIn K mainGlobals "NoText"=some (some (.ref O)))(g_Form:PySem.W.nsIn K mainGlobals "Form"=some (some (.ref a)))(pg_Form:PySem.W.plainGet K a Str.empty=true)(hd_Form:PySem.W.hasDictIn K a=true)(po_Form:PySem.W.plainOver K a=true)(sa_Form:PySem.W.findIn K (.ref a) "__setattr__"=some (some (.builtin "object.__setattr__")))(mk_Form:PySem.W.makesIn K a=true)(kp_Form:PySem.W.keepIn K (.ref a)=true)(na_Form_word:PySem.W.findIn K (.ref a) "word"=some none)(na_Form_name:PySem.W.findIn K (.ref a) "name"=some none)(na_Form_due:PySem.W.findIn K (.ref a) "due"=some none)(na_Form_parts:PySem.W.findIn K (.ref a) "parts"=some none)(a_Form_init:PySem.W.findIn K (.ref a) "__init__"=some (some (.ref d)))(l_Form_init:K.lookup d=some ⟨AD,Ad, .func (PySem.W.fnOf "__init__" "Form.__init__" (cS cG) (bu cG) (ai cG) .none zz zm y_ zA lN AM),AG⟩)(c_Form_init:PySem.W.codeIn K lN "Form.__init__"=true)(k_Form_init:PySem.W.keepIn K (.ref d)=true)(n_Form_init:PySem.W.isFn K (.ref d)=true)(a_Form_binds_here:PySem.W.findIn K (.ref a) "binds_here"=some (some (.ref b)))(l_Form_binds_here:K.lookup b=some ⟨kZ,kC, .func (PySem.W.fnOf "binds_here" "Form.binds_here" (cS bw) (bu bw) (ai bw) .none kR kN kQ kz fE kA),kM⟩)(c_Form_binds_here:PySem.W.codeIn K fE "Form.binds_here"=true)(k_Form_binds_here:PySem.W.keepIn K (.ref b)=true)(n_Form_binds_here:PySem.W.isFn K (.ref b)=true)(a_Form_is_full:PySem.W.findIn K (.ref a) "is_full"=some (some (.ref e)))(l_Form_is_full:K.lookup e=some ⟨pJ,pD, .func (PySem.W.fnOf "is_full" "Form.is_full" (cS bN) (bu bN) (ai bN) .none pC pO pE pq iz pz),pk⟩)(c_Form_is_full:PySem.W.codeIn K iz "Form.is_full"=true)(k_Form_is_full:PySem.W.keepIn K (.ref e)=true)(n_Form_is_full:PySem.W.isFn K (.ref e)=true)(a_Form_take:PySem.W.findIn K (.ref a) "take"=some (some (.ref f)))(l_Form_take:K.lookup f=some ⟨zC,yr, .func (PySem.W.fnOf "take" "Form.take" (cS cH) (bu cH) (ai cH) .none xN zd zo xK lp zg),AS⟩)(c_Form_take:PySem.W.codeIn K lp "Form.take"=true)(k_Form_take:PySem.W.keepIn K (.ref f)=true)(n_Form_take:PySem.W.isFn K (.ref f)=true)(a_Form_closed:PySem.W.findIn K (.ref a) "closed"=some (some (.ref c)))(l_Form_closed:K.lookup c=some ⟨uc,vp, .func (PySem.W.fnOf "closed" "Form.closed" (cS bW) (bu bW) (ai bW) .none uq vn u9 tV i6 uI),ux⟩)(c_Form_closed:PySem.W.codeIn K i6 "Form.closed"=true)(k_Form_closed:PySem.W.keepIn K (.ref c)=true)(n_Form_closed:PySem.W.isFn K (.ref c)=true)(x_e0:PySem.W.excIn K J [.type "ValueError", .type "Exception", .type "BaseException", .type "object"] "ValueError.__new__"=true)(x_e1:PySem.W.excIn K M [.type "ValueError", .type "Exception", .type "BaseException", .type "object"] "ValueError.__new__"=true)(x_e2:PySem.W.excIn K N [.type "ValueError", .type "Exception", .type "BaseException", .type "object"] "ValueError.__new__"=true)(x_e3:PySem.W.excIn K I [.type "ValueError", .type "Exception", .type "BaseException", .type "object"] "ValueError.__new__"=true)(x_e4:PySem.W.excIn K O [.type "ValueError", .type "Exception", .type "BaseException", .type "object"] "ValueError.__new__"=true):∃t,Txt K mg t:=⟨⟨(),L,D,C,P,E,J,M,N,I,O,a⟩,⟨⟨PySem.W.mg_none_of X G z_all,PySem.W.mg_none_of X G z_bool,PySem.W.mg_none_of X G z_enumerate,PySem.W.mg_none_of X G z_int,PySem.W.mg_none_of X G z_isinstance,PySem.W.mg_none_of X G z_len,PySem.W.mg_none_of X G z_list,PySem.W.mg_none_of X G z_max,PySem.W.mg_none_of X G z_range,PySem.W.mg_none_of X G z_reversed,PySem.W.mg_none_of X G z_str,PySem.W.mg_none_of X G z_tuple,PySem.W.mg_none_of X G z_zip,⟨_,PySem.W.mg_of X G g_MOST_KNOTS⟩,⟨_,PySem.W.mg_of X G g_MOST_DEEP⟩,⟨_,PySem.W.mg_of X G g_MOST_VARIABLE⟩,⟨_,PySem.W.mg_of X G g_MOST_LETTERS⟩,⟨_,PySem.W.mg_of X G g_LETTERS⟩,PySem.W.mg_of X G g_KIND_WORDS,PySem.W.mg_of X G g_KIDS_DUE,PySem.W.mg_of X G g_BINDER_OVER,⟨_,PySem.W.mg_of X G g_FIGURES⟩,⟨_,PySem.W.mg_of X G g_MOST_FIGURE⟩,PySem.W.mg_of X G g_TOLD,PySem.W.mg_of X G g_RULES,PySem.W.mg_of X G g_Great,PySem.W.mg_of X G g_NoPlace,PySem.W.mg_of X G g_NoStep,PySem.W.mg_of X G g_Dry,PySem.W.mg_of X G g_NoText,PySem.W.mg_of X G g_Form⟩,a0.df X G λ_ _ _ _ _ _=>jf (λ_=>rfl),a1.df X G λ_ _ _ _ _ _=>jf (λ_=>rfl),a2.df X G λ_ _ _ _ _ _=>jf (λ_=>rfl),a3.df X G λ_ _ _ _ _ _=>jf (λ_=>rfl),a4.df X G λ_ _ _ _ _ _=>jf (λ_=>rfl),a5.df X G λ_ _ _ _ _ _=>jf (λ_=>rfl),a6.df X G λ_ _ _ _ _ _=>jf (λ_=>rfl),a7.df X G λ_ _ _ _ _ _=>EE (λ_ _=>rfl),a8.df X G λ_ _ _ _ _ _=>jf (λ_=>rfl),a9.df X G λ_ _ _ _ _ _=>jf (λ_=>rfl),a10.df X G λ_ _ _ _ _ _=>JV (λ_ _ _=>rfl),a11.df X G λ_ _ _ _ _ _=>jf (λ_=>rfl),a12.df X G λ_ _ _ _ _ _=>jf (λ_=>rfl),a13.df X G λ_ _ _ _ _ _=>JV (λ_ _ _=>rfl),a14.df X G λ_ _ _ _ _ _=>JV (λ_ _ _=>rfl),a15.df X G λ_ _ _ _ _ _=>EE (λ_ _=>rfl),a16.df X G λ_ _ _ _ _ _=>EE (λ_ _=>rfl),a17.df X G λ_ _ _ _ _ _=>by0 rfl,a18.df X G λ_ _ _ _ _ _=>EE (λ_ _=>rfl),a19.df X G λ_ _ _ _ _ _=>EE (λ_ _=>rfl),a20.df X G λ_ _ _ _ _ _=>JV (λ_ _ _=>rfl),a21.df X G λ_ _ _ _ _ _=>JV (λ_ _ _=>rfl),a22.df X G λ_ _ _ _ _ _=>JV (λ_ _ _=>rfl),a23.df X G λ_ _ _ _ _ _=>JV (λ_ _ _=>rfl),a24.df X G λ_ _ _ _ _ _=>JV (λ_ _ _=>rfl),a25.df X G λ_ _ _ _ _ _=>EE (λ_ _=>rfl),a26.df X G λ_ _ _ _ _ _=>jf (λ_=>rfl),a27.df X G λ_ _ _ _ _ _=>JV (λ_ _ _=>rfl),a28.df X G λ_ _ _ _ _ _=>JV (λ_ _ _=>rfl),a29.df X G λ_ _ _ _ _ _=>EE (λ_ _=>rfl),a30.df X G λ_ _ _ _ _ _=>JV (λ_ _ _=>rfl),a31.df X G λ_ _ _ _ _ _=>JV (λ_ _ _=>rfl),a32.df X G λ_ _ _ _ _ _=>EE (λ_ _=>rfl),a33.df X G λ_ _ _ _ _ _=>EE (λ_ _=>rfl),a34.df X G λ_ _ _ _ _ _=>jf (λ_=>rfl),a35.df X G λ_ _ _ _ _ _=>jf (λ_=>rfl),bR lk_KIND_WORDS vs_KIND_WORDS,⟨_,Y8 sy_KIDS_DUE lk_KIDS_DUE ks_KIDS_DUE rf_KIDS_DUE rfl (b9 (bR u0_KIDS_DUE v0_KIDS_DUE) (b9 (bR u1_KIDS_DUE v1_KIDS_DUE) (b9 (bR u2_KIDS_DUE v2_KIDS_DUE) (b9 (bR u3_KIDS_DUE v3_KIDS_DUE) (b9 (bR u4_KIDS_DUE v4_KIDS_DUE) (b9 (bR u5_KIDS_DUE v5_KIDS_DUE) (b9 (bR u6_KIDS_DUE v6_KIDS_DUE) (b9 (bR u7_KIDS_DUE v7_KIDS_DUE) (b9 (bR u8_KIDS_DUE v8_KIDS_DUE) (b9 (bR u9_KIDS_DUE v9_KIDS_DUE) (b9 (bR u10_KIDS_DUE v10_KIDS_DUE) (b9 (bR u11_KIDS_DUE v11_KIDS_DUE) (b9 (bR u12_KIDS_DUE v12_KIDS_DUE) (b9 (bR u13_KIDS_DUE v13_KIDS_DUE) (b9 (bR u14_KIDS_DUE v14_KIDS_DUE) (b9 (bR u15_KIDS_DUE v15_KIDS_DUE) (b9 (bR u16_KIDS_DUE v16_KIDS_DUE) (b9 (bR u17_KIDS_DUE v17_KIDS_DUE) Wg))))))))))))))))))⟩,PY sy_BINDER_OVER lk_BINDER_OVER vs_BINDER_OVER,⟨[j,n,q,u,x,y,z,A,B],nO [j,n,q,u,x,y,z,A,B] lk_TOLD vs_TOLD (by simp),⟨_,_,rfl,iu u0_TOLD v0_TOLD,⟨_,_,rfl,iu u1_TOLD v1_TOLD,⟨_,_,rfl,iu u2_TOLD v2_TOLD,⟨_,_,rfl,iu u3_TOLD v3_TOLD,⟨_,_,rfl,iu u4_TOLD v4_TOLD,⟨_,_,rfl,iu u5_TOLD v5_TOLD,⟨_,_,rfl,iu u6_TOLD v6_TOLD,⟨_,_,rfl,iu u7_TOLD v7_TOLD,⟨_,_,rfl,iu u8_TOLD v8_TOLD,rfl⟩⟩⟩⟩⟩⟩⟩⟩⟩⟩,⟨i,m,p,s,w,g,k,l,o,r,v,Oo ["app","rec","carry","first","second"] [i,m,p,s,w] sy_RULES lk_RULES ks_RULES rf_RULES,nO [g] u0_RULES v0_RULES (by simp),bR u0_0_RULES v0_0_RULES,nO [k,l] u1_RULES v1_RULES (by simp),bR u1_0_RULES v1_0_RULES,bR u1_1_RULES v1_1_RULES,nO [o] u2_RULES v2_RULES (by simp),bR u2_0_RULES v2_0_RULES,nO [r] u3_RULES v3_RULES (by simp),bR u3_0_RULES v3_0_RULES,nO [v] u4_RULES v4_RULES (by simp),bR u4_0_RULES v4_0_RULES⟩,⟨⟨pg_Form,hd_Form,po_Form,sa_Form⟩,na_Form_word,na_Form_name,na_Form_due,na_Form_parts⟩,⟨mk_Form,kp_Form⟩,⟨d,_,eZ (st:=cG) l_Form_init c_Form_init k_Form_init,⟨a_Form_init,n_Form_init,k_Form_init⟩,(eZ (st:=cG) l_Form_init c_Form_init k_Form_init).binds λ_ _ _ _ _ _=>by4 (λ_ _ _ _=>rfl)⟩,⟨b,_,eZ (st:=bw) l_Form_binds_here c_Form_binds_here k_Form_binds_here,⟨a_Form_binds_here,n_Form_binds_here,k_Form_binds_here⟩,(eZ (st:=bw) l_Form_binds_here c_Form_binds_here k_Form_binds_here).binds λ_ _ _ _ _ _=>jf (λ_=>rfl)⟩,⟨e,_,eZ (st:=bN) l_Form_is_full c_Form_is_full k_Form_is_full,⟨a_Form_is_full,n_Form_is_full,k_Form_is_full⟩,(eZ (st:=bN) l_Form_is_full c_Form_is_full k_Form_is_full).binds λ_ _ _ _ _ _=>jf (λ_=>rfl)⟩,⟨f,_,eZ (st:=cH) l_Form_take c_Form_take k_Form_take,⟨a_Form_take,n_Form_take,k_Form_take⟩,(eZ (st:=cH) l_Form_take c_Form_take k_Form_take).binds λ_ _ _ _ _ _=>EE (λ_ _=>rfl)⟩,⟨c,_,eZ (st:=bW) l_Form_closed c_Form_closed k_Form_closed,⟨a_Form_closed,n_Form_closed,k_Form_closed⟩,(eZ (st:=bW) l_Form_closed c_Form_closed k_Form_closed).binds λ_ _ _ _ _ _=>jf (λ_=>rfl)⟩,⟨⟨_,_,_,PySem.F.excBase_ValueError,x_e0⟩,⟨_,_,_,PySem.F.excBase_ValueError,x_e1⟩,⟨_,_,_,PySem.F.excBase_ValueError,x_e2⟩,⟨_,_,_,PySem.F.excBase_ValueError,x_e3⟩,⟨_,_,_,PySem.F.excBase_ValueError,x_e4⟩⟩⟩⟩
theorem fin{l:PySem.W.OpenLaw}{w:World}{K:PySem.W.Frag}{mg:Str->Option Value}{t:wQ}{fa c1 T1 c2 T2:Addr}{h:Heap}(KX:K.In h)(G:h.Ns mainGlobals mg)(h1:PySem.W.tabIn K "raised"=some (c1,T1))(h2:PySem.W.codeHdIn K c1 T1=true)(h3:PySem.W.tabIn K "put_in"=some (c2,T2))(h4:PySem.W.codeHdIn K c2 T2=true)(T:Txt K mg t)(C:mg "law"=some (.ref fa)):∃fd:FuncData,(∀(s:Shared)(v:Value),BindsTo s fd ⟨[v],[]⟩ [("_law_script",v)])/\∀base:Heap,nA l.prog w K mg base b_ 140 fa fd ["_law_script"] (GK K T1 T2):=by
 obtain⟨f,fd,F,m,b⟩:=T.aaE;have e:=C.symm.trans m;cases e;refine⟨fd,?_,λbase=>?_⟩;·obtain⟨oc,od,kV,doc,pm,an,bS,ct,A4,rfl,lk,pe⟩:=F.ex;exactλs v=> .of_eq rfl
 obtain⟨as,c⟩:=T.EL;have c1:=Ui (P:=l.prog) (w:=w) T.vK T.M;have c2:=ym (P:=l.prog) (w:=w) T.yD T.M;have y:=n5 (P:=l.prog) (w:=w) T.CJ T.M 60;have D:=A6 (P:=l.prog) (w:=w) T.B6 T.M;have a:=JD (P:=l.prog) (w:=w) T.JI T.M;have j:=Ej (P:=l.prog) (w:=w) T.EB T.M c T.gG;have k:=Nv T.Mq T.M T.X.e1 a D;have o:=EA T.DZ T.M k;have W:=fU T.i3 T.M a 100;have r:=JS (P:=l.prog) (w:=w) T.Js T.M;have u:=wA T.wY T.M T.X.e0 r W;have g:=JT (P:=l.prog) (w:=w) T.Jd T.M;have E:=lG T.AH T.M k a g 100;have H:=IV (n:=100) T.IM T.M (by decide) E u;have X:=jg (kc:=1) T.o8 T.M a j g 58;have Y:=Lj (L5 T.J8 KX G h1 h2) T.M X;have Z:=jg (kc:=64) T.o8 T.M a j g 58;have ya:=LY (L5 T.Lk KX G h3 h4) T.M Y Z u;have s1:=Jj (P:=l.prog) (w:=w) T.Jw T.M T.Ox;have S:=yO (P:=l.prog) (w:=w) T.An T.M;have s2:=xU T.zT T.M ya S;have q:=JF T.Jb T.M T.X.e2 o s1 H s2;have f1:=mz T.zQ T.M s1 a 60;have U:=Lr T.Ly T.M T.X.e3 f1 q;have V:=OI T.MQ T.M T.X.e2 o s1 q;have w1:=Eh (P:=l.prog) (w:=w) T.DQ T.M;have z3:=fU T.i3 T.M a 60;have z5:=wA T.wY T.M T.X.e0 r z3;have x:=II (P:=l.prog) (w:=w) T.Jq T.M c;have i:=Uj (c_Form_init (P:=l.prog) (w:=w) T.B9 T.M T.aL) T.Vd T.M.g_Form;have d:=c_Form_is_full (P:=l.prog) (w:=w) T.vd T.M T.aL;have z:=c_Form_take T.Bd T.M T.aL T.X.e4 T.zX d;have A:=c_Form_closed T.vT T.M T.aL T.X.e4 d;have B:=c_Form_binds_here (P:=l.prog) (w:=w) T.md T.M T.aL T.gG;have I:=Fd (P:=l.prog) (w:=w) T.Ef T.M;have J:=BY (P:=l.prog) (w:=w) T.CU T.M;have L:=wa T.vQ T.M T.aL B;have M:=JU T.IW T.M T.X.e4 c T.gG x i;have N:=Kp T.JY T.M T.X.e4 J I x L;have p:=Mi T.AL T.M T.aL T.X.e4 w1 i d z A M N z5;have O:=Bh T.A7 T.M p;have Q:=BD T.CV T.M p;have R:=Ms T.Nh T.M T.UY O Q;exact YJ F T.M c1 c2 y R U V
theorem walk{l:PySem.W.OpenLaw}{q:Program}{loose:List Str}{XP:(Str->Option Value)->Heap->Prop}{YP:World->Heap->Prop}{d:DefRec}{K:Params->PySem.W.Frag}{c1 T1 c2 T2:Addr}(hn:l.most=some 63)(i:d.params.defaults=[])(g:∀(w:World)(h:Heap),YP w h->(K w.params).In h)(h2:∀w:World,PySem.W.codeHdIn (K w.params) c1 T1=true)(h3:∀w:World,(K w.params).lookup T1=none)(h4:∀(w:World)(h:Heap),YP w h->h.get? T1=some (PySem.W.tabObj #[]))(h5:∀w:World,PySem.W.codeHdIn (K w.params) c2 T2=true)(h6:∀w:World,(K w.params).lookup T2=none)(c:∀(w:World)(h:Heap),YP w h->h.get? T2=some (PySem.W.tabObj #[]))(j:T1≠T2)(F:∀(w:World)(mg:Str->Option Value)(fa:Addr)(h:Heap),(K w.params).In h->h.Ns mainGlobals mg->mg d.name=some (.ref fa)->∃fd:FuncData,(∀(s:Shared)(u:Value),BindsTo s fd ⟨[u],[]⟩ [("_law_script",u)])/\∀base:Heap,nA l.prog w (K w.params) mg base b_ 140 fa fd ["_law_script"] (GK (K w.params) T1 T2)):PySem.W.WalkO q loose XP YP l.row.toRowW d [] (λf vs=>PySem.call f vs):=by
 refine KY (ts:=[(c1,T1, .tab BC (rawInt Bn.line) (rawInt Bn.col)),(c2,T2, .tab xr (rawInt wC.line) (rawInt wC.col))]) (n:=63) (k:=140) (x:="_law_script") (sp:=λw=>GK (K w.params) T1 T2) hn (by decide) i ⟨by decide,by decide,λ_=>rfl⟩ g (λw h Y=>⟨λq hq=>?_,λq hq=>?_,λq hq=>?_,λq hq=>?_⟩) F λw H a ns hl b e=>⟨a,ns,rfl,e,hl,⟨b (c1,T1, .tab BC (rawInt Bn.line) (rawInt Bn.col)) (by simp) (by simp[List.lookup]),b (c2,T2, .tab xr (rawInt wC.line) (rawInt wC.col)) (by simp) ?_⟩,λ_=>rfl⟩
 ·rcases List.mem_cons.mp hq with rfl|hq;·exact h4 w h Y
  ·obtain rfl:=List.mem_singleton.mp hq;exact c w h Y
 ·rcases List.mem_cons.mp hq with rfl|hq;·exact h2 w
  ·obtain rfl:=List.mem_singleton.mp hq;exact h5 w
 ·rcases List.mem_cons.mp hq with rfl|hq;·exact h3 w
  ·obtain rfl:=List.mem_singleton.mp hq;exact h6 w
 ·rcases List.mem_cons.mp hq with rfl|hq;·exact⟨_,_,_,rfl⟩
  ·obtain rfl:=List.mem_singleton.mp hq;exact⟨_,_,_,rfl⟩
 ·have :(T2==T1)=false:=by simpa usingλz:T2=T1=>j z.symm
  simp[List.lookup,this]
end K62
end
section
namespace HD
open PySem PySem.W PySem.Calls PyProof.Rows
noncomputable def AZ{a:Type}:List a->List a×List a|[]=>([],[])|x::r=>(x::(AZ r).2,(AZ r).1)
noncomputable def Uv:Nat->List Obj->BT|0,_=> .nil|_+1,[]=> .nil|n+1,x::r=> .node x (Uv n (AZ r).1) (Uv n (AZ r).2)
noncomputable def mkT(l:List Obj):BT:=Uv 14 l
noncomputable def i(n:Nat):Value:= .int (.ofNat n) 0
noncomputable def view(p:Program)(l:List Stmt):Program:={p with main:={p.main with body:=l}}
noncomputable abbrev kK(a:Type):Type:=World->(OsState->a)×(OsState->a)
def Ok{a:Type}(q:kK a):Prop:=∀w,(q w).1=(q w).2
theorem jf{b:Type}{q a:kK b}(e:q=a)(h:∀w,(a w).1=(a w).2):Ok q:=by subst e;exact h
theorem EE{f:Type}{q a b:kK f}(r:String)(c:(λw=>q (w.withFollow r false))=a)(d:(λw=>q (w.withFollow r true))=b)(e:∀w,(a w).1=(a w).2)(ht:∀w,(b w).1=(b w).2):Ok q:=by subst c d;exactλw=>byRow2 r (P:=λw=>(q w).1=(q w).2) e ht w
section
variable(p:Program)(m:Nat)(ann:Option Value)
noncomputable def pre(n:Nat)(S a:World->OsState->Shared)(t t':Thread):kK (Option (Shared×Thread)):=λw=>(λos=>topGo treeTable p w m ann n (S w os) t,λos=>some (a w os,t'))
noncomputable def blk(n:Nat)(S:World->OsState->Shared)(a:World->OsState->SharedT)(b:List Stmt)(env:Env)(c:Code)(d e:Pos)(B:List Frame):kK (Option (Flow×Shared×Code×Pos)):=λw=>(λos=>segRun treeTable p w m ann 1 n (S w os) (blockOf b env c d B),λos=>some (Flow.next,(a w os).abs,c,e))
noncomputable def seg(n:Nat)(S a:World->OsState->SharedT)(l:List Stmt)(env:Env)(c:Code)(b d:Pos)(B:List Frame):kK (Option (Flow×SharedT×Code×Pos)):=λw=>(λos=>segRunT treeTable p w m ann 1 n (S w os) (piecesOf l env c b B),λos=>some (Flow.next,a w os,c,d))
noncomputable def fin(n:Nat)(S:World->OsState->SharedT)(a:World->OsState->Shared)(t:Thread):kK (Option Shared):=λw=>(λos=>topRun treeTable p w m ann n (S w os).abs t,λos=>some (a w os))
variable{p:Program}{m:Nat}{ann:Option Value}
def Goes(p:Program)(m:Nat)(ann:Option Value)(R:World->OsState->Shared)(n:Nat)(S:World->OsState->Shared)(t:Thread):Prop:=∀w os,topRun treeTable p w m ann n (S w os) t=some (R w os)
noncomputable def Ow(S:World->OsState->SharedT):World->OsState->Shared:=λw os=>(S w os).abs
theorem Y6{n:Nat}{S:World->OsState->SharedT}{R:World->OsState->Shared}{env:Env}{c:Code}{a q:Pos}(h:Ok (fin p m ann n S R ⟨doneF .next,c,a,[topFrame q]⟩)):Goes p m ann R n (Ow S) (restOf [] env c a [topFrame q]):=λw os=>piece_nil (congrFun (h w) os)
theorem iB{n N:Nat}{S a:World->OsState->SharedT}{R:World->OsState->Shared}{l rest:List Stmt}{env:Env}{c:Code}{b d q:Pos}(h:Ok (seg p m ann n S a l env c b d [topFrame q]))(k:Goes p m ann R N (Ow a) (restOf rest env c d [topFrame q])):Goes p m ann R (n+N) (Ow S) (restOf (l++rest) env c b [topFrame q]):=λw os=>piece_app (segRun_of (congrFun (h w) os)) (k w os)
theorem YE{n N:Nat}{S:World->OsState->Shared}{a:World->OsState->SharedT}{R:World->OsState->Shared}{b b':List Stmt}{env:Env}{c d q:Pos}(e:b=b')(h:Ok (blk p m ann n S a b env (.body b env) c d [topFrame q]))(k:Goes p m ann R N (Ow a) (restOf b' env (.body b env) d [topFrame q])):Goes p m ann R (n+N) S ⟨denote treeTable (.body b env), .body b env,c,[topFrame q]⟩:=λw os=>by subst e;exact piece_block (congrFun (h w) os) (k w os)
theorem aah{n N:Nat}{S a R:World->OsState->Shared}{t t':Thread}(h:Ok (pre p m ann n S a t t'))(k:Goes p m ann R N a t'):Goes p m ann R (n+N) S t:=λw os=>go_top (congrFun (h w) os) (k w os)
end
noncomputable def sz(m:Nat)(a:Option Value):kK (Bool×Nat×Option Value):=λw=>(λ_=>((boot_heap w.params).isNs mainGlobals&&(Array.mk []:Array GenState).size==0,(boot_heap w.params).objs.size,(boot_heap w.params).nsMap mainGlobals "__annotations__"),λ_=>(true,m,a))
noncomputable def XG(H:Params->Heap)(d:Drawn)(k:Nat):World->OsState->Shared:=λw os=>⟨H w.params,Array.mk [],d,k,os⟩
noncomputable def la(p:Program)(H₁:Params->Heap)(d:Drawn)(k:Nat):kK Bool:=λw=>(λos=>(staticsOk (importedModules p.main.body) (boot_heap w.params) (H₁ w.params)&&namesBound p (H₁ w.params)&&gensDone ⟨H₁ w.params,Array.mk [],d,k,os⟩&&laidKept (boot_heap w.params) (H₁ w.params)),λ_=>true)
noncomputable def lb(p q:Program)(loose:List Str)(Xt:Shared->Bool)(H₁:Params->Heap)(d:Drawn)(k:Nat):=λ(w:World)=>((λ(os:OsState)=>openSeen q loose (importedModules p.main.body) Xt true ⟨H₁ w.params,Array.mk [],d,k,os⟩),(λ(_:OsState)=>openGood q loose))
noncomputable def lc(H:Hook)(H₁:Params->Heap)(d:Drawn)(k:Nat):kK H.α:=λw=>(λos=>H.obs ⟨H₁ w.params,Array.mk [],d,k,os⟩,λ_=>H.val w)
theorem left{p q:Program}{loose:List Str}{Xt:Shared->Bool}{H:Hook}{N m M:Nat}{a:Option Value}{H₁:Params->Heap}{d:Drawn}{k:Nat}(e:opening p=plainProg p.main.scope.names)(b:Nat.ble 600 N=true)(f:∀s,fenceModules? p s=some s)(size:Ok (sz m a))(run:Goes p m a (XG H₁ d k) M (XG boot_heap boot_drawn boot_toks) (topStub p))(le:Nat.ble M N=true)(ha:Ok (la p H₁ d k))(hb:Ok (lb p q loose Xt H₁ d k))(hc:Ok (lc H H₁ d k)):LeftO p q loose Xt H.obs H.val N:=LeftO.of_pieces (H₀:=boot_heap) (H₁:=H₁) (boot_open e b f) (λw=>congrFun (size w) default) run le λw=>funext λos=>looks_pair (congrFun (ha w) os) (looks_pair (congrFun (hb w) os) (congrFun (hc w) os))
noncomputable def tp(l:List Value):Obj:=⟨.type "tuple",none, .seq l.toArray 0,#[]⟩
noncomputable def fl(l:List Value):Obj:=⟨.none,none, .fields l.toArray,#[]⟩
noncomputable def e(P:Params)(x:Str)(n:Nat)(v:Value):DictEntry:=⟨PyData.keyHash P x, .str x n,v⟩
noncomputable def dc(l:List DictEntry)(n:Nat):Obj:=⟨.type "dict",none, .dict l.toArray n,#[]⟩
noncomputable def dm(o:Obj)(l:List DictEntry)(n:Nat):Obj:=match o.data with| .dict a _=>dc (a.toList++l) n|_=>o
noncomputable def fa(o:Obj)(l:List Value):Obj:=match o.data with| .fields a=>fl (a.toList++l)|_=>o
noncomputable abbrev F4:Type:=Option (Flow×SharedT×Code×Pos)
noncomputable def cd(n q f:Str)(a b c:Nat)(e g h j k r:Nat)(t:Bool)(m s:Nat)(l o p u:Value)(y z d:Nat):Obj:=⟨.type "code",none, .fields #[.str n a, .str q b, .str f c,i e,i g,i h,i j,i k, .ref r, .bool t,i m, .ref s,l,o,p,u,i y,i z, .str f d],#[]⟩
noncomputable def fs(n q:Str)(s:Stmt):Obj:=⟨.none,none, .func ⟨n,q,L2.cS s, .stmts (L2.bu s),L2.ai s,0,[], .none, .none, .none, .none,none, .none, .none,0⟩,#[]⟩
noncomputable def fu(n q:Str)(s:Stmt)(m:Str)(k c:Nat):Obj:=⟨.type "function",none, .func ⟨n,q,L2.cS s, .stmts (L2.bu s),L2.ai s,3,[], .none, .none, .none, .str m k,none, .ref c, .none,0⟩,#[]⟩
noncomputable def fm(a b c:Nat)(m:Str)(k:Nat):Obj:=⟨.type "frame",none, .plain,#[some (.ref a),some (.ref b),some (.ref c),none,some (.str m k),none,some (.ref 0)]⟩
noncomputable def bm(v w:Value):Obj:=⟨.type "builtin_function_or_method",none, .fields #[v,w],#[]⟩
noncomputable def su(a:Nat):Obj:=⟨.type "super",none, .fields #[.ref a, .ref a, .ref a],#[]⟩
noncomputable def cl(n:Str)(b m:List Value)(d:Nat)(s:List Value)(t k j:Nat)(v:Value):Obj:=⟨.type "type",none, .cls ⟨n,b,m,d,n,true,[],s,false,none,false⟩,#[some (.ref t),none,some (.str n k),some (.str n j),some v,some (.bool true)]⟩
noncomputable def sb(o:Obj)(l:List Value):Obj:=match o with|⟨c,d, .cls x,t⟩=>⟨c,d, .cls {x with subclasses:=x.subclasses++l},t⟩|_=>o
noncomputable def pK(l:List Obj):BT->Nat->BT:=@List.rec Obj (λ_=>BT->Nat->BT) (λt _=>t) (λo _ b t a=>b (t.ins a o) (Nat.succ a)) l
end HD
end
section
namespace K62
open PySem PySem.W PySem.Calls PyProof.Rows
noncomputable abbrev pw:Program:=PySem.Challenge.pw_keeper_k62_sums_and_products
noncomputable def ht(i:Nat):Stmt:=pw.main.body.getD i (.Pass ⟨0,0,0,0⟩)
noncomputable def Xb:Str:= .ofString "__name__"
noncomputable def IJ:Str:= .ofString "__doc__"
noncomputable def Xo:Str:= .ofString "__package__"
noncomputable def Xz:Str:= .ofString "__loader__"
noncomputable def Xc:Str:= .ofString "__spec__"
noncomputable def Zx9:Str:= .ofString "all"
noncomputable def Vn:Str:= .ofString "next"
noncomputable def RF:Str:= .ofString "__main__"
noncomputable def wx:Str:= .ofString "__annotations__"
noncomputable def wB:Str:= .ofString "__builtins__"
noncomputable def wq:Str:= .ofString "__file__"
noncomputable def aQ:Str:= .ofString "/claim/cut.py"
noncomputable def wH:Str:= .ofString "__cached__"
noncomputable def TV:Str:= .ofString "<module>"
noncomputable def iA:Str:= .ofString "_wall"
noncomputable def YD:Str:= .ofString "k"
noncomputable def cL:Str:= .ofString "keeper.errors"
noncomputable def kq:Str:= .ofString "KeeperError"
noncomputable def gk:Str:= .ofString "__module__"
noncomputable def um:Str:= .ofString "__qualname__"
noncomputable def gv:Str:= .ofString "__firstlineno__"
noncomputable def cf:Str:= .ofString "small_name"
noncomputable def gf:Str:= .ofString "__static_attributes__"
noncomputable def jo:Str:= .ofString "self"
noncomputable def MN:Str:= .ofString "KeeperError.small_name"
noncomputable def HF:Str:= .ofString "__weakref__"
noncomputable def kr:Str:= .ofString "Great"
noncomputable def Mu:Str:= .ofString "Great.small_name"
noncomputable def j9:Str:= .ofString "NoPlace"
noncomputable def Ml:Str:= .ofString "NoPlace.small_name"
noncomputable def ku:Str:= .ofString "NoStep"
noncomputable def NX:Str:= .ofString "NoStep.small_name"
noncomputable def jV:Str:= .ofString "Dry"
noncomputable def Mk:Str:= .ofString "Dry.small_name"
noncomputable def mm:Str:= .ofString "NoText"
noncomputable def Nn:Str:= .ofString "NoText.small_name"
noncomputable def lP:Str:= .ofString "keeper.things"
noncomputable def CB:Str:= .ofString "MOST_KNOTS"
noncomputable def Bz:Str:= .ofString "MOST_DEEP"
noncomputable def Cu:Str:= .ofString "MOST_VARIABLE"
noncomputable def CH:Str:= .ofString "MOST_LETTERS"
noncomputable def Dv:Str:= .ofString "LETTERS"
noncomputable def Ds:Str:= .ofString "abcdefghijklmnopqrstuvwxyz"
noncomputable def Bm:Str:= .ofString "KIND_WORDS"
noncomputable def RV:Str:= .ofString "nat"
noncomputable def RS:Str:= .ofString "none"
noncomputable def LQ:Str:= .ofString "some"
noncomputable def RQ:Str:= .ofString "same"
noncomputable def C8:Str:= .ofString "KIDS_DUE"
noncomputable def XT:Str:= .ofString "var"
noncomputable def HQ:Str:= .ofString "fun"
noncomputable def TJ:Str:= .ofString "app"
noncomputable def MS:Str:= .ofString "zero"
noncomputable def N9:Str:= .ofString "rec"
noncomputable def ND:Str:= .ofString "like"
noncomputable def KS:Str:= .ofString "carry"
noncomputable def aak:Str:= .ofString "never"
noncomputable def LI:Str:= .ofString "pair"
noncomputable def N1:Str:= .ofString "first"
noncomputable def LG:Str:= .ofString "second"
noncomputable def Dr:Str:= .ofString "name"
noncomputable def iC:Str:= .ofString "kind"
noncomputable def eh:Str:= .ofString "term"
noncomputable def G1:Str:= .ofString "BINDER_OVER"
noncomputable def j8:Str:= .ofString "is_number"
noncomputable def aas:Str:= .ofString "value"
noncomputable def ko:Str:= .ofString "is_name"
noncomputable def j6:Str:= .ofString "is_vast"
noncomputable def kl:Str:= .ofString "kids_of"
noncomputable def d_:Str:= .ofString "thing"
noncomputable def j4:Str:= .ofString "binds_of"
noncomputable def ka:Str:= .ofString "top_variable"
noncomputable def j3:Str:= .ofString "bounded"
noncomputable def j_:Str:= .ofString "rebuilt"
noncomputable def Lh:Str:= .ofString "kids"
noncomputable def Zr:Str:= .ofString "keeper.words"
noncomputable def kg:Str:= .ofString "words_of"
noncomputable def eP:Str:= .ofString "keeper.reading"
noncomputable def Io:Str:= .ofString "FIGURES"
noncomputable def G9:Str:= .ofString "0123456789"
noncomputable def Gj:Str:= .ofString "MOST_FIGURE"
noncomputable def iT:Str:= .ofString "Form"
noncomputable def Be:Str:= .ofString "__init__"
noncomputable def Dj:Str:= .ofString "binds_here"
noncomputable def C7:Str:= .ofString "is_full"
noncomputable def CC:Str:= .ofString "take"
noncomputable def wy:Str:= .ofString "closed"
noncomputable def uJ:Str:= .ofString "word"
noncomputable def FO:Str:= .ofString "due"
noncomputable def MZ:Str:= .ofString "Form.__init__"
noncomputable def Lu:Str:= .ofString "Form.binds_here"
noncomputable def J_:Str:= .ofString "Form.is_full"
noncomputable def KI:Str:= .ofString "Form.take"
noncomputable def MG:Str:= .ofString "Form.closed"
noncomputable def XS:Str:= .ofString "parts"
noncomputable def SI:Str:= .ofString "__dict__"
noncomputable def jY:Str:= .ofString "form_of"
noncomputable def XJ:Str:= .ofString "head"
noncomputable def mn:Str:= .ofString "thing_named"
noncomputable def Lw:Str:= .ofString "forms"
noncomputable def B2:Str:= .ofString "names"
noncomputable def XZ:Str:= .ofString "binders"
noncomputable def Tu:Str:= .ofString "form"
noncomputable def lA:Str:= .ofString "is_figure"
noncomputable def mR:Str:= .ofString "count_of"
noncomputable def Bb:Str:= .ofString "number"
noncomputable def aaK:Str:= .ofString "count"
noncomputable def mY:Str:= .ofString "leaf_of"
noncomputable def lF:Str:= .ofString "read_thing"
noncomputable def K2:Str:= .ofString "text"
noncomputable def ZH:Str:= .ofString "words"
noncomputable def YV:Str:= .ofString "whole"
noncomputable def wR:Str:= .ofString "place"
noncomputable def mr:Str:= .ofString "read_term"
noncomputable def l6:Str:= .ofString "read_kind"
noncomputable def Yr:Str:= .ofString "keeper.basics"
noncomputable def LP:Str:= .ofString "TOLD"
noncomputable def ZM:Str:= .ofString "plus"
noncomputable def RZ:Str:= .ofString "(all a nat (all b nat nat))"
noncomputable def Y3:Str:= .ofString "\n(fun a nat (fun b nat\n    (rec x nat a (fun n nat (fun r nat (next r))) b)))\n"
noncomputable def YT:Str:= .ofString "times"
noncomputable def aax:Str:= .ofString "\n(fun a nat (fun b nat\n    (rec x nat 0\n        (app (fun c nat (fun n nat (fun r nat (rec y nat r (fun m nat (fun q nat (next q))) c)))) a)\n        b)))\n"
noncomputable def Zq:Str:= .ofString "turnabout"
noncomputable def YO:Str:= .ofString "(all a nat (all b nat (all e (same nat a b) (same nat b a))))"
noncomputable def YW:Str:= .ofString "\n(fun a nat (fun b nat (fun e (same nat a b)\n    (carry x (same nat x a) (like nat a) e))))\n"
noncomputable def aag:Str:= .ofString "through"
noncomputable def ZF:Str:= .ofString "(all a nat (all b nat (all c nat (all d (same nat a b) (all e (same nat b c) (same nat a c))))))"
noncomputable def Zi:Str:= .ofString "\n(fun a nat (fun b nat (fun c nat (fun d (same nat a b) (fun e (same nat b c)\n    (carry x (same nat a x) d e))))))\n"
noncomputable def aa8:Str:= .ofString "nexts"
noncomputable def aaS:Str:= .ofString "(all a nat (all b nat (all e (same nat a b) (same nat (next a) (next b)))))"
noncomputable def aam:Str:= .ofString "\n(fun a nat (fun b nat (fun e (same nat a b)\n    (carry x (same nat (next a) (next x)) (like nat (next a)) e))))\n"
noncomputable def XY:Str:= .ofString "pluszero"
noncomputable def aad:Str:= .ofString "(all a nat (same nat (app (app plus a) 0) a))"
noncomputable def aaY:Str:= .ofString "\n(fun a nat (like nat a))\n"
noncomputable def YN:Str:= .ofString "plusnext"
noncomputable def ZJ:Str:= .ofString "(all a nat (all b nat (same nat (app (app plus a) (next b)) (next (app (app plus a) b)))))"
noncomputable def ZV:Str:= .ofString "\n(fun a nat (fun b nat\n    (like nat (next (app (app plus a) b)))))\n"
noncomputable def aaM:Str:= .ofString "commutes"
noncomputable def Zz:Str:= .ofString "(all a nat (all b nat (same nat (app (app plus a) b) (app (app plus b) a))))"
noncomputable def aaj:Str:= .ofString "\n(fun a nat (fun b nat\n    (rec x (same nat (app (app plus a) x) (app (app plus x) a))\n        (rec y (same nat y (app (app plus 0) y))\n            (like nat 0)\n            (fun m nat (app (app nexts m) (app (app plus 0) m)))\n            a)\n        (fun n nat (fun h (same nat (app (app plus a) n) (app (app plus n) a))\n            (carry z (same nat (next (app (app plus a) n)) z)\n                (app (app (app nexts (app (app plus a) n)) (app (app plus n) a)) h)\n                (rec y (same nat (next (app (app plus n) y)) (app (app plus (next n)) y))\n                    (like nat (next n))\n                    (fun m nat (app (app nexts (next (app (app plus n) m))) (app (app plus (next n)) m)))\n                    a))))\n        b)))\n"
noncomputable def YF:Str:= .ofString "doubled"
noncomputable def aaF:Str:= .ofString "(all a nat (some b nat (same nat b (app (app plus a) a))))"
noncomputable def Yt:Str:= .ofString "\n(fun a nat\n    (pair (some b nat (same nat b (app (app plus a) a)))\n        (app (app plus a) a)\n        (like nat (app (app plus a) a))))\n"
noncomputable def lW:Str:= .ofString "basics"
noncomputable def uy:Str:= .ofString "book"
noncomputable def A8:Str:= .ofString "keeper.places"
noncomputable def lE:Str:= .ofString "kid_at"
noncomputable def l_:Str:= .ofString "at_place"
noncomputable def Ip:Str:= .ofString "here"
noncomputable def n8:Str:= .ofString "changed_at"
noncomputable def RG:Str:= .ofString "new"
noncomputable def R3:Str:= .ofString "kid"
noncomputable def oE:Str:= .ofString "with_at"
noncomputable def Ma:Str:= .ofString "keeper.putting"
noncomputable def oK:Str:= .ofString "with_free"
noncomputable def oH:Str:= .ofString "raised"
noncomputable def SU:Str:= .ofString "by"
noncomputable def RB:Str:= .ofString "low"
noncomputable def SH:Str:= .ofString "change"
noncomputable def o9:Str:= .ofString "put_in"
noncomputable def SA:Str:= .ofString "other"
noncomputable def Rq:Str:= .ofString "at"
noncomputable def wU:Str:= .ofString "keeper.steps"
noncomputable def Tg:Str:= .ofString "RULES"
noncomputable def oZ:Str:= .ofString "rule_of"
noncomputable def aaN:Str:= .ofString "part"
noncomputable def Ca:Str:= .ofString "rule"
noncomputable def n9:Str:= .ofString "after_next"
noncomputable def om:Str:= .ofString "after_rule"
noncomputable def uK:Str:= .ofString "stepped"
noncomputable def vo:Str:= .ofString "first_step"
noncomputable def S_:Str:= .ofString "step"
noncomputable def Sm:Str:= .ofString "keeper.normal"
noncomputable def u4:Str:= .ofString "normal"
noncomputable def Z2:Str:= .ofString "fuel"
noncomputable def Ry:Str:= .ofString "log"
noncomputable def uQ:Str:= .ofString "walked"
noncomputable def Bk:Str:= .ofString "law_keeper_k62_sums_and_products"
noncomputable def tQ:Str:= .ofString "_law_cell_at"
noncomputable def Rv:Str:= .ofString "_law_script"
noncomputable def Sh:Str:= .ofString "_law_k"
noncomputable def vj:Str:= .ofString "_law_alike"
noncomputable def uE:Str:= .ofString "_law_number"
noncomputable def aaQ:Str:= .ofString "_law_many"
noncomputable def aao:Str:= .ofString "_law_thing"
noncomputable def ue:Str:= .ofString "law"
noncomputable def aay:Str:= .ofString "_law_most"
noncomputable def ZK:Str:= .ofString "_law_one"
noncomputable def aaa:Str:= .ofString "_law_word"
noncomputable def aaP:Str:= .ofString "_law_other"
noncomputable def aaZ:Str:= .ofString "_law_due"
noncomputable def XM:Str:= .ofString "_law_term"
noncomputable def Zg:Str:= .ofString "_law_told"
variable(P:Params)
noncomputable def fR:Env:={scope:=pw.main.scope,locals:=mainNs,globals:=mainNs,cells:=[],code:=(.ref 13),frame:=some (nat_lit 14)}
noncomputable def c8:Code:= .body (behindTheImports pw) fR
noncomputable def eY:List Frame:=[topFrame ⟨0,0,0,0⟩]
noncomputable abbrev ZS0:World->OsState->Shared:=HD.XG boot_heap boot_drawn boot_toks
def af:=HD.tp []
def aA:=HD.fl []
def Kw:=HD.cd TV TV aQ 182 183 184 1 0 0 0 0 11 false 181 12 .none .none .none .none 185 1 186
def J9:=HD.fm 13 3 3 RF 164
noncomputable def X1(r:List (Obj)):List (Obj):=PySem.W.boot_o_0 P::PySem.W.boot_o_1 P::PySem.W.boot_o_2 P::PySem.W.boot_o_3 P::PySem.W.boot_o_4 P::PySem.W.boot_o_5 P::PySem.W.boot_o_6 P::PySem.W.boot_o_7 P::PySem.W.boot_o_8 P::PySem.W.boot_o_9 P::PySem.W.boot_o_10 P::af::r
noncomputable def aaI(r:List (Obj)):List (Obj):=aA::Kw::J9::r
noncomputable def ZHa(P:Params):Heap:=⟨Array.mk (X1 P (aaI [])),⟨[],[],[],0,[],[],false,#[],[],0,false,false,false,(.ofNat 0),[(.ofNat 2000),(.ofNat 10),(.ofNat 10)],false,0,true,[],[],0,false⟩⟩
noncomputable def Zda:Drawn:=⟨0,0,0,0⟩
noncomputable def Zka:Nat:=nat_lit 187
noncomputable abbrev XB:World->OsState->Shared:=HD.XG ZHa Zda Zka
noncomputable def Zqa:HD.kK (Option (Shared×Thread)):=λw=>(λos=>topGo treeTable pw w (nat_lit 11) (some (.ref 6)) (nat_lit 12) (ZS0 w os) (topStub pw),λos=>some (XB w os,Thread.mk (denote treeTable c8) c8 ⟨0,0,0,0⟩ eY))
theorem Vi:HD.pre pw (nat_lit 11) (some (.ref 6)) (nat_lit 12) ZS0 XB (topStub pw) (Thread.mk (denote treeTable c8) c8 ⟨0,0,0,0⟩ eY)=Zqa:=by kernel_rfl
name_quick RU for Zqa by Vi
theorem Zia(w:World):(Fast.RU w).1=(Fast.RU w).2:=by kernel_rfl
theorem Zha:HD.Ok (HD.pre pw (nat_lit 11) (some (.ref 6)) (nat_lit 12) ZS0 XB (topStub pw) (Thread.mk (denote treeTable c8) c8 ⟨0,0,0,0⟩ eY)):=HD.jf Fast.RU_eq Zia
noncomputable def Yp(r:List (Obj)):List (Obj):=PySem.W.boot_o_0 P::PySem.W.boot_o_1 P::PySem.W.boot_o_2 P::PySem.W.boot_o_3 P::PySem.W.boot_o_4 P::PySem.W.boot_o_5 P::PySem.W.boot_o_6 P::PySem.W.boot_o_7 P::PySem.W.boot_o_8 P::PySem.W.boot_o_9 P::PySem.W.boot_o_10 P::af::r
noncomputable def aa9(r:List (Obj)):List (Obj):=aA::Kw::J9::r
noncomputable def ZTb(P:Params):BT:=HD.mkT (Yp P (aa9 []))
noncomputable def nL:Life:=⟨[],[],[],0,[],[],false,#[],[],0,false,false,false,(.ofNat 0),[(.ofNat 2000),(.ofNat 10),(.ofNat 10)],false,0,true,[],[],0,false⟩
noncomputable abbrev Xy(w:World)(os:OsState):SharedT:=⟨ZTb w.params,nat_lit 15,nL,Array.mk [],⟨0,0,0,0⟩,nat_lit 187,os⟩
noncomputable def Zqb:HD.kK (Option (Flow×Shared×Code×Pos)):=λw=>(λos=>segRun treeTable pw w (nat_lit 11) (some (.ref 6)) (nat_lit 1) (nat_lit 1) (XB w os) (blockOf (behindTheImports pw) fR c8 ⟨0,0,0,0⟩ eY),λos=>some (Flow.next,(Xy w os).abs,c8,⟨0,0,0,0⟩))
theorem T_:HD.blk pw (nat_lit 11) (some (.ref 6)) (nat_lit 1) XB Xy (behindTheImports pw) fR c8 ⟨0,0,0,0⟩ ⟨0,0,0,0⟩ eY=Zqb:=by kernel_rfl
name_quick RR for Zqb by T_
theorem Zib(w:World):(Fast.RR w).1=(Fast.RR w).2:=by kernel_rfl
theorem Zhb:HD.Ok (HD.blk pw (nat_lit 11) (some (.ref 6)) (nat_lit 1) XB Xy (behindTheImports pw) fR c8 ⟨0,0,0,0⟩ ⟨0,0,0,0⟩ eY):=HD.jf Fast.RR_eq Zib
def ZW:=HD.dc [HD.e P Xb 165 (.str cL 194),HD.e P IJ 166 .none,HD.e P Xo 167 .none,HD.e P Xz 168 (.builtin "__main__.__loader__#opaque"),HD.e P Xc 169 .none,HD.e P wx 170 (.ref 6),HD.e P wB 171 (.ref 4),HD.e P wq 173 (.str aQ 172),HD.e P wH 174 .none,HD.e P iA 193 (.ref 21),HD.e P kq 220 (.ref 38)] 11
def Tx:=HD.fl [(HD.i 1),(HD.i 0),(.ref 20),(HD.i 5),(HD.i 0),(.ref 27)]
def He:=HD.tp [(.str YD 190)]
def R4:=HD.fs iA iA (ht 0)
def FJ:=HD.cd iA iA aQ 187 188 189 1 1 0 0 3 15 true 181 16 .none (.ref 17) (.ref 18) (.ref 19) 191 1 192
def Ge:=HD.fu iA iA (ht 0) RF 164 20
def GQ:=HD.tp [(.type "ValueError")]
def gs:=HD.bm (.builtin "type.__prepare__") (.type "type")
def Sv:=HD.dc [HD.e P gk 203 (.str cL 194),HD.e P um 205 (.str kq 204),HD.e P gv 207 (.int (.ofNat 5) 206),HD.e P cf 214 (.ref 35),HD.e P gf 215 (.ref 36)] 5
def Tv:=HD.fl [(HD.i 7),(HD.i 4),(.ref 34)]
def Sx:=HD.cd kq kq aQ 198 199 200 5 0 0 0 0 25 false 181 26 .none .none .none .none 201 5 202
def S0:=HD.fm 27 3 24 cL 194
def Hw:=HD.tp [(.str jo 211)]
def Ss:=HD.fs cf MN (L2.inClass (ht 2) 0)
def Hv:=HD.cd cf MN aQ 208 209 210 7 1 0 0 3 29 true 181 30 .none (.ref 31) (.ref 32) (.ref 33) 212 7 213
def FR:=HD.fu cf MN (L2.inClass (ht 2) 0) cL 194 34
def Ib:=HD.dc [HD.e P gk 203 (.str cL 194),HD.e P gv 207 (.int (.ofNat 5) 206),HD.e P cf 214 (.ref 35),HD.e P gf 215 (.ref 36),HD.e P HF 217 (.ref 39),HD.e P IJ 218 .none] 3
def SD:=HD.cl kq [(.type "ValueError")] [(.ref 38),(.type "ValueError"),(.type "Exception"),(.type "BaseException"),(.type "object")] 37 [] 22 196 204 (.builtin "ValueError.__new__")
noncomputable def Fz:Obj:=⟨(.type "getset_descriptor"),none,(.fields #[(.str HF 216),(.ref 38),(.builtin "ExceptionGroup.__weakref__"), .none]),#[]⟩
def Rr:=HD.su 38
def RE:=HD.bm (.builtin "object.__init_subclass__") (.ref 38)
noncomputable def Zg1:List Stmt:=[ht 0,ht 1,ht 2]
noncomputable def ZT1(P:Params):BT:=(HD.pK [af,aA,He,af,R4,FJ,Ge,GQ,gs,Sv P,af,Tv,Sx,S0,af,aA,Hw,af,Ss,Hv,FR,af,Ib P,SD,Fz,Rr,RE] (((ZTb P).ins (nat_lit 3) (ZW P)).ins (nat_lit 12) (Tx)) (nat_lit 15))
noncomputable abbrev W9(w:World)(os:OsState):SharedT:=⟨ZT1 w.params,nat_lit 42,nL,Array.mk [],⟨0,0,0,0⟩,nat_lit 221,os⟩
noncomputable def Zq1:HD.kK (HD.F4):=λw=>(λos=>segRunT treeTable pw w (nat_lit 11) (some (.ref 6)) (nat_lit 1) (nat_lit 255) (Xy w os) (piecesOf Zg1 fR c8 ⟨0,0,0,0⟩ eY),λos=>some (Flow.next,W9 w os,c8,⟨5,0,8,16⟩))
theorem VQ:HD.seg pw (nat_lit 11) (some (.ref 6)) (nat_lit 255) Xy W9 Zg1 fR c8 ⟨0,0,0,0⟩ ⟨5,0,8,16⟩ eY=Zq1:=by kernel_rfl
name_quick Sb for Zq1 by VQ
theorem Zi1(w:World):(Fast.Sb w).1=(Fast.Sb w).2:=by kernel_rfl
theorem Zh1:HD.Ok (HD.seg pw (nat_lit 11) (some (.ref 6)) (nat_lit 255) Xy W9 Zg1 fR c8 ⟨0,0,0,0⟩ ⟨5,0,8,16⟩ eY):=HD.jf Fast.Sb_eq Zi1
def aa6:=HD.dm (ZW P) [HD.e P kr 243 (.ref 58)] 12
def SG:=HD.fa (Tx) [(HD.i 9),(HD.i 0),(.ref 47)]
def TQ:=HD.sb (SD) [(.ref 58)]
def dP:=HD.tp [(.ref 38)]
def RN:=HD.dc [HD.e P gk 228 (.str cL 194),HD.e P um 230 (.str kr 229),HD.e P gv 232 (.int (.ofNat 9) 231),HD.e P cf 239 (.ref 55),HD.e P gf 240 (.ref 56)] 5
def Tt:=HD.fl [(HD.i 11),(HD.i 4),(.ref 54)]
def Tn:=HD.cd kr kr aQ 223 224 225 9 0 0 0 0 45 false 181 46 .none .none .none .none 226 9 227
def Sf:=HD.fm 47 3 44 cL 194
def GW:=HD.tp [(.str jo 236)]
def TU:=HD.fs cf Mu (L2.inClass (ht 3) 0)
def Hm:=HD.cd cf Mu aQ 233 234 235 11 1 0 0 3 49 true 181 50 .none (.ref 51) (.ref 52) (.ref 53) 237 11 238
def Gf:=HD.fu cf Mu (L2.inClass (ht 3) 0) cL 194 54
def HX:=HD.dc [HD.e P gk 228 (.str cL 194),HD.e P gv 232 (.int (.ofNat 9) 231),HD.e P cf 239 (.ref 55),HD.e P gf 240 (.ref 56),HD.e P IJ 241 .none] 2
def Hd:=HD.cl kr [(.ref 38)] [(.ref 58),(.ref 38),(.type "ValueError"),(.type "Exception"),(.type "BaseException"),(.type "object")] 57 [] 42 221 229 (.builtin "ValueError.__new__")
def SV:=HD.su 58
def Tf:=HD.bm (.builtin "object.__init_subclass__") (.ref 58)
noncomputable def Zg2:List Stmt:=[ht 3]
noncomputable def ZT2(P:Params):BT:=(HD.pK [dP,gs,RN P,af,Tt,Tn,Sf,af,aA,GW,af,TU,Hm,Gf,af,HX P,Hd,SV,Tf] ((((ZT1 P).ins (nat_lit 3) (aa6 P)).ins (nat_lit 12) (SG)).ins (nat_lit 38) (TQ)) (nat_lit 42))
noncomputable abbrev Xi(w:World)(os:OsState):SharedT:=⟨ZT2 w.params,nat_lit 61,nL,Array.mk [],⟨0,0,0,0⟩,nat_lit 244,os⟩
noncomputable def Zq2:HD.kK (HD.F4):=λw=>(λos=>segRunT treeTable pw w (nat_lit 11) (some (.ref 6)) (nat_lit 1) (nat_lit 244) (W9 w os) (piecesOf Zg2 fR c8 ⟨5,0,8,16⟩ eY),λos=>some (Flow.next,Xi w os,c8,⟨9,0,12,16⟩))
theorem WQ:HD.seg pw (nat_lit 11) (some (.ref 6)) (nat_lit 244) W9 Xi Zg2 fR c8 ⟨5,0,8,16⟩ ⟨9,0,12,16⟩ eY=Zq2:=by kernel_rfl
name_quick Ta for Zq2 by WQ
theorem Zi2(w:World):(Fast.Ta w).1=(Fast.Ta w).2:=by kernel_rfl
theorem Zh2:HD.Ok (HD.seg pw (nat_lit 11) (some (.ref 6)) (nat_lit 244) W9 Xi Zg2 fR c8 ⟨5,0,8,16⟩ ⟨9,0,12,16⟩ eY):=HD.jf Fast.Ta_eq Zi2
def Yk:=HD.dm (aa6 P) [HD.e P j9 266 (.ref 77)] 13
def SX:=HD.fa (SG) [(HD.i 13),(HD.i 0),(.ref 66)]
def Tw:=HD.sb (TQ) [(.ref 77)]
def RI:=HD.dc [HD.e P gk 251 (.str cL 194),HD.e P um 253 (.str j9 252),HD.e P gv 255 (.int (.ofNat 13) 254),HD.e P cf 262 (.ref 74),HD.e P gf 263 (.ref 75)] 5
def TN:=HD.fl [(HD.i 15),(HD.i 4),(.ref 73)]
def Sl:=HD.cd j9 j9 aQ 246 247 248 13 0 0 0 0 64 false 181 65 .none .none .none .none 249 13 250
def Sa:=HD.fm 66 3 63 cL 194
def FU:=HD.tp [(.str jo 259)]
def R9:=HD.fs cf Ml (L2.inClass (ht 4) 0)
def G4:=HD.cd cf Ml aQ 256 257 258 15 1 0 0 3 68 true 181 69 .none (.ref 70) (.ref 71) (.ref 72) 260 15 261
def Ht:=HD.fu cf Ml (L2.inClass (ht 4) 0) cL 194 73
def Hx:=HD.dc [HD.e P gk 251 (.str cL 194),HD.e P gv 255 (.int (.ofNat 13) 254),HD.e P cf 262 (.ref 74),HD.e P gf 263 (.ref 75),HD.e P IJ 264 .none] 2
def G5:=HD.cl j9 [(.ref 38)] [(.ref 77),(.ref 38),(.type "ValueError"),(.type "Exception"),(.type "BaseException"),(.type "object")] 76 [] 61 244 252 (.builtin "ValueError.__new__")
def TM:=HD.su 77
def SS:=HD.bm (.builtin "object.__init_subclass__") (.ref 77)
noncomputable def Zg3:List Stmt:=[ht 4]
noncomputable def ZT3(P:Params):BT:=(HD.pK [dP,gs,RI P,af,TN,Sl,Sa,af,aA,FU,af,R9,G4,Ht,af,Hx P,G5,TM,SS] ((((ZT2 P).ins (nat_lit 3) (Yk P)).ins (nat_lit 12) (SX)).ins (nat_lit 38) (Tw)) (nat_lit 61))
noncomputable abbrev W_(w:World)(os:OsState):SharedT:=⟨ZT3 w.params,nat_lit 80,nL,Array.mk [],⟨0,0,0,0⟩,nat_lit 267,os⟩
noncomputable def Zq3:HD.kK (HD.F4):=λw=>(λos=>segRunT treeTable pw w (nat_lit 11) (some (.ref 6)) (nat_lit 1) (nat_lit 244) (Xi w os) (piecesOf Zg3 fR c8 ⟨9,0,12,16⟩ eY),λos=>some (Flow.next,W_ w os,c8,⟨13,0,16,16⟩))
theorem Uz:HD.seg pw (nat_lit 11) (some (.ref 6)) (nat_lit 244) Xi W_ Zg3 fR c8 ⟨9,0,12,16⟩ ⟨13,0,16,16⟩ eY=Zq3:=by kernel_rfl
name_quick SF for Zq3 by Uz
theorem Zi3(w:World):(Fast.SF w).1=(Fast.SF w).2:=by kernel_rfl
theorem Zh3:HD.Ok (HD.seg pw (nat_lit 11) (some (.ref 6)) (nat_lit 244) Xi W_ Zg3 fR c8 ⟨9,0,12,16⟩ ⟨13,0,16,16⟩ eY):=HD.jf Fast.SF_eq Zi3
def aaH:=HD.dm (Yk P) [HD.e P ku 289 (.ref 96)] 14
def RO:=HD.fa (SX) [(HD.i 17),(HD.i 0),(.ref 85)]
def Tr:=HD.sb (Tw) [(.ref 96)]
def SQ:=HD.dc [HD.e P gk 274 (.str cL 194),HD.e P um 276 (.str ku 275),HD.e P gv 278 (.int (.ofNat 17) 277),HD.e P cf 285 (.ref 93),HD.e P gf 286 (.ref 94)] 5
def SJ:=HD.fl [(HD.i 19),(HD.i 4),(.ref 92)]
def R6:=HD.cd ku ku aQ 269 270 271 17 0 0 0 0 83 false 181 84 .none .none .none .none 272 17 273
def S3:=HD.fm 85 3 82 cL 194
def HN:=HD.tp [(.str jo 282)]
def RT:=HD.fs cf NX (L2.inClass (ht 5) 0)
def FX:=HD.cd cf NX aQ 279 280 281 19 1 0 0 3 87 true 181 88 .none (.ref 89) (.ref 90) (.ref 91) 283 19 284
def G7:=HD.fu cf NX (L2.inClass (ht 5) 0) cL 194 92
def Ia:=HD.dc [HD.e P gk 274 (.str cL 194),HD.e P gv 278 (.int (.ofNat 17) 277),HD.e P cf 285 (.ref 93),HD.e P gf 286 (.ref 94),HD.e P IJ 287 .none] 2
def FI:=HD.cl ku [(.ref 38)] [(.ref 96),(.ref 38),(.type "ValueError"),(.type "Exception"),(.type "BaseException"),(.type "object")] 95 [] 80 267 275 (.builtin "ValueError.__new__")
def TF:=HD.su 96
def S9:=HD.bm (.builtin "object.__init_subclass__") (.ref 96)
noncomputable def Zg4:List Stmt:=[ht 5]
noncomputable def ZT4(P:Params):BT:=(HD.pK [dP,gs,SQ P,af,SJ,R6,S3,af,aA,HN,af,RT,FX,G7,af,Ia P,FI,TF,S9] ((((ZT3 P).ins (nat_lit 3) (aaH P)).ins (nat_lit 12) (RO)).ins (nat_lit 38) (Tr)) (nat_lit 80))
noncomputable abbrev Xx(w:World)(os:OsState):SharedT:=⟨ZT4 w.params,nat_lit 99,nL,Array.mk [],⟨0,0,0,0⟩,nat_lit 290,os⟩
noncomputable def Zq4:HD.kK (HD.F4):=λw=>(λos=>segRunT treeTable pw w (nat_lit 11) (some (.ref 6)) (nat_lit 1) (nat_lit 244) (W_ w os) (piecesOf Zg4 fR c8 ⟨13,0,16,16⟩ eY),λos=>some (Flow.next,Xx w os,c8,⟨17,0,20,16⟩))
theorem Wi:HD.seg pw (nat_lit 11) (some (.ref 6)) (nat_lit 244) W_ Xx Zg4 fR c8 ⟨13,0,16,16⟩ ⟨17,0,20,16⟩ eY=Zq4:=by kernel_rfl
name_quick Sj for Zq4 by Wi
theorem Zi4(w:World):(Fast.Sj w).1=(Fast.Sj w).2:=by kernel_rfl
theorem Zh4:HD.Ok (HD.seg pw (nat_lit 11) (some (.ref 6)) (nat_lit 244) W_ Xx Zg4 fR c8 ⟨13,0,16,16⟩ ⟨17,0,20,16⟩ eY):=HD.jf Fast.Sj_eq Zi4
def abj:=HD.dm (aaH P) [HD.e P jV 312 (.ref 115)] 15
def Sg:=HD.fa (RO) [(HD.i 21),(HD.i 0),(.ref 104)]
def Rx:=HD.sb (Tr) [(.ref 115)]
def Lx:=HD.dc [HD.e P gk 297 (.str cL 194),HD.e P um 299 (.str jV 298),HD.e P gv 301 (.int (.ofNat 21) 300),HD.e P cf 308 (.ref 112),HD.e P gf 309 (.ref 113)] 5
def Kn:=HD.fl [(HD.i 23),(HD.i 4),(.ref 111)]
def L9:=HD.cd jV jV aQ 292 293 294 21 0 0 0 0 102 false 181 103 .none .none .none .none 295 21 296
def N7:=HD.fm 104 3 101 cL 194
def zi:=HD.tp [(.str jo 305)]
def KH:=HD.fs cf Mk (L2.inClass (ht 6) 0)
def yJ:=HD.cd cf Mk aQ 302 303 304 23 1 0 0 3 106 true 181 107 .none (.ref 108) (.ref 109) (.ref 110) 306 23 307
def yZ:=HD.fu cf Mk (L2.inClass (ht 6) 0) cL 194 111
def yx:=HD.dc [HD.e P gk 297 (.str cL 194),HD.e P gv 301 (.int (.ofNat 21) 300),HD.e P cf 308 (.ref 112),HD.e P gf 309 (.ref 113),HD.e P IJ 310 .none] 2
def xI:=HD.cl jV [(.ref 38)] [(.ref 115),(.ref 38),(.type "ValueError"),(.type "Exception"),(.type "BaseException"),(.type "object")] 114 [] 99 290 298 (.builtin "ValueError.__new__")
def LL:=HD.su 115
def N_:=HD.bm (.builtin "object.__init_subclass__") (.ref 115)
noncomputable def Zg5:List Stmt:=[ht 6]
noncomputable def ZT5(P:Params):BT:=(HD.pK [dP,gs,Lx P,af,Kn,L9,N7,af,aA,zi,af,KH,yJ,yZ,af,yx P,xI,LL,N_] ((((ZT4 P).ins (nat_lit 3) (abj P)).ins (nat_lit 12) (Sg)).ins (nat_lit 38) (Rx)) (nat_lit 99))
noncomputable abbrev XC(w:World)(os:OsState):SharedT:=⟨ZT5 w.params,nat_lit 118,nL,Array.mk [],⟨0,0,0,0⟩,nat_lit 313,os⟩
noncomputable def Zq5:HD.kK (HD.F4):=λw=>(λos=>segRunT treeTable pw w (nat_lit 11) (some (.ref 6)) (nat_lit 1) (nat_lit 244) (Xx w os) (piecesOf Zg5 fR c8 ⟨17,0,20,16⟩ eY),λos=>some (Flow.next,XC w os,c8,⟨21,0,24,16⟩))
theorem Ue:HD.seg pw (nat_lit 11) (some (.ref 6)) (nat_lit 244) Xx XC Zg5 fR c8 ⟨17,0,20,16⟩ ⟨21,0,24,16⟩ eY=Zq5:=by kernel_rfl
name_quick Sq for Zq5 by Ue
theorem Zi5(w:World):(Fast.Sq w).1=(Fast.Sq w).2:=by kernel_rfl
theorem Zh5:HD.Ok (HD.seg pw (nat_lit 11) (some (.ref 6)) (nat_lit 244) Xx XC Zg5 fR c8 ⟨17,0,20,16⟩ ⟨21,0,24,16⟩ eY):=HD.jf Fast.Sq_eq Zi5
def aba:=HD.dc [HD.e P Xb 165 (.str lP 336),HD.e P IJ 166 .none,HD.e P Xo 167 .none,HD.e P Xz 168 (.builtin "__main__.__loader__#opaque"),HD.e P Xc 169 .none,HD.e P wx 170 (.ref 6),HD.e P wB 171 (.ref 4),HD.e P wq 173 (.str aQ 172),HD.e P wH 174 .none,HD.e P iA 193 (.ref 21),HD.e P kq 220 (.ref 38),HD.e P kr 243 (.ref 58),HD.e P j9 266 (.ref 77),HD.e P ku 289 (.ref 96),HD.e P jV 312 (.ref 115),HD.e P mm 335 (.ref 134),HD.e P CB 339 (.int (.ofNat 600) 338),HD.e P Bz 341 (.int (.ofNat 40) 340),HD.e P Cu 343 (.int (.ofNat 99) 342),HD.e P CH 345 (.int (.ofNat 12) 344),HD.e P Dv 347 (.str Ds 346),HD.e P Bm 353 (.ref 137)] 22
def R5:=HD.fa (Sg) [(HD.i 25),(HD.i 0),(.ref 123)]
def GR:=HD.sb (Rx) [(.ref 134)]
def MR:=HD.dc [HD.e P gk 320 (.str cL 194),HD.e P um 322 (.str mm 321),HD.e P gv 324 (.int (.ofNat 25) 323),HD.e P cf 331 (.ref 131),HD.e P gf 332 (.ref 132)] 5
def LJ:=HD.fl [(HD.i 27),(HD.i 4),(.ref 130)]
def Lv:=HD.cd mm mm aQ 315 316 317 25 0 0 0 0 121 false 181 122 .none .none .none .none 318 25 319
def Mx:=HD.fm 123 3 120 cL 194
def zq:=HD.tp [(.str jo 328)]
def Ls:=HD.fs cf Nn (L2.inClass (ht 7) 0)
def xZ:=HD.cd cf Nn aQ 325 326 327 27 1 0 0 3 125 true 181 126 .none (.ref 127) (.ref 128) (.ref 129) 329 27 330
def Aa:=HD.fu cf Nn (L2.inClass (ht 7) 0) cL 194 130
def zY:=HD.dc [HD.e P gk 320 (.str cL 194),HD.e P gv 324 (.int (.ofNat 25) 323),HD.e P cf 331 (.ref 131),HD.e P gf 332 (.ref 132),HD.e P IJ 333 .none] 2
def AA:=HD.cl mm [(.ref 38)] [(.ref 134),(.ref 38),(.type "ValueError"),(.type "Exception"),(.type "BaseException"),(.type "object")] 133 [] 118 313 321 (.builtin "ValueError.__new__")
def Me:=HD.su 134
def Le:=HD.bm (.builtin "object.__init_subclass__") (.ref 134)
def yK:=HD.tp [(.str RV 348),(.str RS 349),(.str Zx9 350),(.str LQ 351),(.str RQ 352)]
noncomputable def Zg6:List Stmt:=[ht 7,ht 8,ht 9,ht 10,ht 11,ht 12,ht 13,ht 14]
noncomputable def ZT6(P:Params):BT:=(HD.pK [dP,gs,MR P,af,LJ,Lv,Mx,af,aA,zq,af,Ls,xZ,Aa,af,zY P,AA,Me,Le,yK] ((((ZT5 P).ins (nat_lit 3) (aba P)).ins (nat_lit 12) (R5)).ins (nat_lit 38) (GR)) (nat_lit 118))
noncomputable abbrev RC(w:World)(os:OsState):SharedT:=⟨ZT6 w.params,nat_lit 138,nL,Array.mk [],⟨0,0,0,0⟩,nat_lit 354,os⟩
noncomputable def Zq6:HD.kK (HD.F4):=λw=>(λos=>segRunT treeTable pw w (nat_lit 11) (some (.ref 6)) (nat_lit 1) (nat_lit 313) (XC w os) (piecesOf Zg6 fR c8 ⟨21,0,24,16⟩ eY),λos=>some (Flow.next,RC w os,c8,⟨35,0,35,10⟩))
theorem Wc:HD.seg pw (nat_lit 11) (some (.ref 6)) (nat_lit 313) XC RC Zg6 fR c8 ⟨21,0,24,16⟩ ⟨35,0,35,10⟩ eY=Zq6:=by kernel_rfl
name_quick Ts for Zq6 by Wc
theorem Zi6(w:World):(Fast.Ts w).1=(Fast.Ts w).2:=by kernel_rfl
theorem Zh6:HD.Ok (HD.seg pw (nat_lit 11) (some (.ref 6)) (nat_lit 313) XC RC Zg6 fR c8 ⟨21,0,24,16⟩ ⟨35,0,35,10⟩ eY):=HD.jf Fast.Ts_eq Zi6
def abo:=HD.dm (aba P) [HD.e P C8 418 (.ref 138)] 23
def yC:=HD.dc [HD.e P RV 354 (.ref 139),HD.e P RS 356 (.ref 140),HD.e P Zx9 358 (.ref 141),HD.e P LQ 362 (.ref 142),HD.e P RQ 366 (.ref 143),HD.e P XT 371 (.ref 144),HD.e P HQ 373 (.ref 145),HD.e P TJ 377 (.ref 146),HD.e P MS 381 (.ref 147),HD.e P Vn 383 (.ref 148),HD.e P N9 386 (.ref 149),HD.e P ND 392 (.ref 150),HD.e P KS 396 (.ref 151),HD.e P aak 401 (.ref 152),HD.e P LI 405 (.ref 153),HD.e P N1 410 (.ref 154),HD.e P LG 413 (.ref 155),HD.e P Dr 416 (.ref 157)] 18
def xY:=HD.tp [(.str iC 359),(.str iC 360)]
def zl:=HD.tp [(.str iC 363),(.str iC 364)]
def yE:=HD.tp [(.str iC 367),(.str eh 368),(.str eh 369)]
def AW:=HD.tp [(.str iC 374),(.str eh 375)]
def zP:=HD.tp [(.str eh 378),(.str eh 379)]
def yh:=HD.tp [(.str eh 384)]
def AX:=HD.tp [(.str iC 387),(.str eh 388),(.str eh 389),(.str eh 390)]
def zr:=HD.tp [(.str iC 393),(.str eh 394)]
def Ac:=HD.tp [(.str iC 397),(.str eh 398),(.str eh 399)]
def AI:=HD.tp [(.str iC 402),(.str eh 403)]
def z0:=HD.tp [(.str iC 406),(.str eh 407),(.str eh 408)]
def Aj:=HD.tp [(.str eh 411)]
def yF:=HD.tp [(.str eh 414)]
def MB:=HD.dc [HD.e P Dr 416 (.ref 157)] 1
noncomputable def Xh:List Stmt:=[ht 15]
noncomputable def ZT7(P:Params):BT:=(HD.pK [yC P,af,af,xY,zl,yE,af,AW,zP,af,yh,AX,zr,Ac,AI,z0,Aj,yF,MB P,af] ((ZT6 P).ins (nat_lit 3) (abo P)) (nat_lit 138))
noncomputable abbrev Oj(w:World)(os:OsState):SharedT:=⟨ZT7 w.params,nat_lit 158,nL,Array.mk [],⟨0,0,0,0⟩,nat_lit 419,os⟩
noncomputable def ZT:HD.kK (HD.F4):=λw=>(λos=>segRunT treeTable pw (w.withFollow "special-get-raises" false) (nat_lit 11) (some (.ref 6)) (nat_lit 1) (nat_lit 340) (RC (w.withFollow "special-get-raises" false) os) (piecesOf Xh fR c8 ⟨35,0,35,10⟩ eY),λos=>some (Flow.next,Oj (w.withFollow "special-get-raises" false) os,c8,⟨36,0,36,8⟩))
theorem Qp:(λw:World=>HD.seg pw (nat_lit 11) (some (.ref 6)) (nat_lit 340) RC Oj Xh fR c8 ⟨35,0,35,10⟩ ⟨36,0,36,8⟩ eY (w.withFollow "special-get-raises" false))=ZT:=by kernel_rfl
name_quick Lb for ZT by Qp
theorem ab8(w:World):(Fast.Lb w).1=(Fast.Lb w).2:=by kernel_rfl
noncomputable def Ys:HD.kK (HD.F4):=λw=>(λos=>segRunT treeTable pw (w.withFollow "special-get-raises" true) (nat_lit 11) (some (.ref 6)) (nat_lit 1) (nat_lit 340) (RC (w.withFollow "special-get-raises" true) os) (piecesOf Xh fR c8 ⟨35,0,35,10⟩ eY),λos=>some (Flow.next,Oj (w.withFollow "special-get-raises" true) os,c8,⟨36,0,36,8⟩))
theorem Pc:(λw:World=>HD.seg pw (nat_lit 11) (some (.ref 6)) (nat_lit 340) RC Oj Xh fR c8 ⟨35,0,35,10⟩ ⟨36,0,36,8⟩ eY (w.withFollow "special-get-raises" true))=Ys:=by kernel_rfl
name_quick Ng for Ys by Pc
theorem abA(w:World):(Fast.Ng w).1=(Fast.Ng w).2:=by kernel_rfl
theorem Zh7:HD.Ok (HD.seg pw (nat_lit 11) (some (.ref 6)) (nat_lit 340) RC Oj Xh fR c8 ⟨35,0,35,10⟩ ⟨36,0,36,8⟩ eY):=HD.EE "special-get-raises" Fast.Lb_eq Fast.Ng_eq ab8 abA
def Zt:=HD.dc [HD.e P Xb 165 (.str eP 496),HD.e P IJ 166 .none,HD.e P Xo 167 .none,HD.e P Xz 168 (.builtin "__main__.__loader__#opaque"),HD.e P Xc 169 .none,HD.e P wx 170 (.ref 6),HD.e P wB 171 (.ref 4),HD.e P wq 173 (.str aQ 172),HD.e P wH 174 .none,HD.e P iA 193 (.ref 21),HD.e P kq 220 (.ref 38),HD.e P kr 243 (.ref 58),HD.e P j9 266 (.ref 77),HD.e P ku 289 (.ref 96),HD.e P jV 312 (.ref 115),HD.e P mm 335 (.ref 134),HD.e P CB 339 (.int (.ofNat 600) 338),HD.e P Bz 341 (.int (.ofNat 40) 340),HD.e P Cu 343 (.int (.ofNat 99) 342),HD.e P CH 345 (.int (.ofNat 12) 344),HD.e P Dv 347 (.str Ds 346),HD.e P Bm 353 (.ref 137),HD.e P C8 418 (.ref 138),HD.e P G1 434 (.ref 158),HD.e P j8 441 (.ref 165),HD.e P ko 447 (.ref 170),HD.e P j6 453 (.ref 175),HD.e P kl 460 (.ref 182),HD.e P j4 466 (.ref 187),HD.e P ka 472 (.ref 192),HD.e P j3 479 (.ref 199),HD.e P j_ 487 (.ref 206),HD.e P kg 495 (.ref 211),HD.e P Io 499 (.str G9 498),HD.e P Gj 501 (.int (.ofNat 39) 500)] 35
def SE:=HD.fa (R5) [(HD.i 38),(HD.i 0),(.ref 164),(HD.i 40),(HD.i 0),(.ref 169),(HD.i 44),(HD.i 0),(.ref 174),(HD.i 56),(HD.i 0),(.ref 181),(HD.i 60),(HD.i 0),(.ref 186),(HD.i 63),(HD.i 0),(.ref 191),(HD.i 67),(HD.i 0),(.ref 198),(HD.i 71),(HD.i 0),(.ref 205),(HD.i 76),(HD.i 0),(.ref 210)]
def xT:=HD.dc [HD.e P Zx9 419 (.int (.ofNat 1) 420),HD.e P LQ 421 (.int (.ofNat 1) 422),HD.e P HQ 423 (.int (.ofNat 1) 424),HD.e P N9 425 (.int (.ofNat 0) 426),HD.e P KS 427 (.int (.ofNat 0) 428)] 5
def zV:=HD.tp [(.str aas 438)]
def ML:=HD.fs j8 j8 (ht 17)
def Au:=HD.cd j8 j8 aQ 435 436 437 38 1 0 0 3 159 true 181 160 .none (.ref 161) (.ref 162) (.ref 163) 439 38 440
def zp:=HD.fu j8 j8 (ht 17) lP 336 164
def Ny:=HD.fs ko ko (ht 18)
def yV:=HD.cd ko ko aQ 442 443 444 40 1 0 0 3 166 true 181 167 .none .none .none (.ref 168) 445 40 446
def xX:=HD.fu ko ko (ht 18) lP 336 169
def MW:=HD.fs j6 j6 (ht 19)
def AK:=HD.cd j6 j6 aQ 448 449 450 44 1 0 0 3 171 true 181 172 .none .none .none (.ref 173) 451 44 452
def zR:=HD.fu j6 j6 (ht 19) lP 336 174
def zF:=HD.tp [(.str d_ 457)]
def L8:=HD.fs kl kl (ht 20)
def xS:=HD.cd kl kl aQ 454 455 456 56 1 0 0 3 176 true 181 177 .none (.ref 178) (.ref 179) (.ref 180) 458 56 459
def yA:=HD.fu kl kl (ht 20) lP 336 181
def Li:=HD.fs j4 j4 (ht 21)
def zj:=HD.cd j4 j4 aQ 461 462 463 60 1 0 0 3 183 true 181 184 .none .none .none (.ref 185) 464 60 465
def AV:=HD.fu j4 j4 (ht 21) lP 336 186
def N3:=HD.fs ka ka (ht 22)
def Ag:=HD.cd ka ka aQ 467 468 469 63 1 0 0 3 188 true 181 189 .none .none .none (.ref 190) 470 63 471
def Az:=HD.fu ka ka (ht 22) lP 336 191
def zy:=HD.tp [(.str d_ 476)]
def Nu:=HD.fs j3 j3 (ht 23)
def AE:=HD.cd j3 j3 aQ 473 474 475 67 1 0 0 3 193 true 181 194 .none (.ref 195) (.ref 196) (.ref 197) 477 67 478
def xH:=HD.fu j3 j3 (ht 23) lP 336 198
def zL:=HD.tp [(.str d_ 483),(.str Lh 484)]
def M0:=HD.fs j_ j_ (ht 24)
def yb:=HD.cd j_ j_ aQ 480 481 482 71 2 0 0 3 200 true 181 201 .none (.ref 202) (.ref 203) (.ref 204) 485 71 486
def yq:=HD.fu j_ j_ (ht 24) lP 336 205
def Kh:=HD.fs kg kg (ht 26)
def xR:=HD.cd kg kg aQ 490 491 492 76 1 0 0 3 207 true 181 208 .none .none .none (.ref 209) 493 76 494
def z4:=HD.fu kg kg (ht 26) Zr 488 210
noncomputable def Xs:List Stmt:=[ht 16,ht 17,ht 18,ht 19,ht 20,ht 21,ht 22,ht 23,ht 24,ht 25,ht 26,ht 27,ht 28,ht 29]
noncomputable def ZT8(P:Params):BT:=(HD.pK [xT P,af,aA,zV,af,ML,Au,zp,af,aA,Ny,yV,xX,af,aA,MW,AK,zR,af,aA,zF,af,L8,xS,yA,af,aA,Li,zj,AV,af,aA,N3,Ag,Az,af,aA,zy,af,Nu,AE,xH,af,aA,zL,af,M0,yb,yq,af,aA,Kh,xR,z4] (((ZT7 P).ins (nat_lit 3) (Zt P)).ins (nat_lit 12) (SE)) (nat_lit 158))
noncomputable abbrev Sd(w:World)(os:OsState):SharedT:=⟨ZT8 w.params,nat_lit 212,nL,Array.mk [],⟨0,0,0,0⟩,nat_lit 502,os⟩
noncomputable def Zh:HD.kK (HD.F4):=λw=>(λos=>segRunT treeTable pw (w.withFollow "special-get-raises" false) (nat_lit 11) (some (.ref 6)) (nat_lit 1) (nat_lit 369) (Oj (w.withFollow "special-get-raises" false) os) (piecesOf Xs fR c8 ⟨36,0,36,8⟩ eY),λos=>some (Flow.next,Sd (w.withFollow "special-get-raises" false) os,c8,⟨81,0,81,11⟩))
theorem P7:(λw:World=>HD.seg pw (nat_lit 11) (some (.ref 6)) (nat_lit 369) Oj Sd Xs fR c8 ⟨36,0,36,8⟩ ⟨81,0,81,11⟩ eY (w.withFollow "special-get-raises" false))=Zh:=by kernel_rfl
name_quick Nb for Zh by P7
theorem acb(w:World):(Fast.Nb w).1=(Fast.Nb w).2:=by kernel_rfl
noncomputable def aaq:HD.kK (HD.F4):=λw=>(λos=>segRunT treeTable pw (w.withFollow "special-get-raises" true) (nat_lit 11) (some (.ref 6)) (nat_lit 1) (nat_lit 369) (Oj (w.withFollow "special-get-raises" true) os) (piecesOf Xs fR c8 ⟨36,0,36,8⟩ eY),λos=>some (Flow.next,Sd (w.withFollow "special-get-raises" true) os,c8,⟨81,0,81,11⟩))
theorem QQ:(λw:World=>HD.seg pw (nat_lit 11) (some (.ref 6)) (nat_lit 369) Oj Sd Xs fR c8 ⟨36,0,36,8⟩ ⟨81,0,81,11⟩ eY (w.withFollow "special-get-raises" true))=aaq:=by kernel_rfl
name_quick Kr for aaq by QQ
theorem ace(w:World):(Fast.Kr w).1=(Fast.Kr w).2:=by kernel_rfl
theorem Zh8:HD.Ok (HD.seg pw (nat_lit 11) (some (.ref 6)) (nat_lit 369) Oj Sd Xs fR c8 ⟨36,0,36,8⟩ ⟨81,0,81,11⟩ eY):=HD.EE "special-get-raises" Fast.Nb_eq Fast.Kr_eq acb ace
def acC:=HD.dm (Zt P) [HD.e P iT 564 (.ref 256),HD.e P jY 573 (.ref 267)] 37
def Su:=HD.fa (SE) [(HD.i 82),(HD.i 0),(.ref 217),(HD.i 107),(HD.i 0),(.ref 266)]
def Ln:=HD.dc [HD.e P gk 509 (.str eP 496),HD.e P um 511 (.str iT 510),HD.e P gv 513 (.int (.ofNat 82) 512),HD.e P Be 523 (.ref 225),HD.e P Dj 530 (.ref 232),HD.e P C7 537 (.ref 239),HD.e P CC 545 (.ref 246),HD.e P wy 552 (.ref 253),HD.e P gf 557 (.ref 254)] 9
def M9:=HD.fl [(HD.i 84),(HD.i 4),(.ref 224),(HD.i 90),(HD.i 4),(.ref 231),(HD.i 93),(HD.i 4),(.ref 238),(HD.i 96),(HD.i 4),(.ref 245),(HD.i 103),(HD.i 4),(.ref 252)]
def KR:=HD.cd iT iT aQ 504 505 506 82 0 0 0 0 215 false 181 216 .none .none .none .none 507 82 508
def Kt:=HD.fm 217 3 214 eP 496
def zh:=HD.tp [(.str jo 517),(.str uJ 518),(.str Dr 519),(.str FO 520)]
def KQ:=HD.fs Be MZ (L2.inClass (ht 30) 0)
def AO:=HD.cd Be MZ aQ 514 515 516 84 4 0 0 3 219 true 181 220 .none (.ref 221) (.ref 222) (.ref 223) 521 84 522
def yg:=HD.fu Be MZ (L2.inClass (ht 30) 0) eP 496 224
def yB:=HD.tp [(.str jo 527)]
def NG:=HD.fs Dj Lu (L2.inClass (ht 30) 1)
def yR:=HD.cd Dj Lu aQ 524 525 526 90 1 0 0 3 226 true 181 227 .none (.ref 228) (.ref 229) (.ref 230) 528 90 529
def yo:=HD.fu Dj Lu (L2.inClass (ht 30) 1) eP 496 231
def zW:=HD.tp [(.str jo 534)]
def Mb:=HD.fs C7 J_ (L2.inClass (ht 30) 2)
def xM:=HD.cd C7 J_ aQ 531 532 533 93 1 0 0 3 233 true 181 234 .none (.ref 235) (.ref 236) (.ref 237) 535 93 536
def Ay:=HD.fu C7 J_ (L2.inClass (ht 30) 2) eP 496 238
def zU:=HD.tp [(.str jo 541),(.str d_ 542)]
def Mn:=HD.fs CC KI (L2.inClass (ht 30) 3)
def yt:=HD.cd CC KI aQ 538 539 540 96 2 0 0 3 240 true 181 241 .none (.ref 242) (.ref 243) (.ref 244) 543 96 544
def zk:=HD.fu CC KI (L2.inClass (ht 30) 3) eP 496 245
def yT:=HD.tp [(.str jo 549)]
def KO:=HD.fs wy MG (L2.inClass (ht 30) 4)
def xQ:=HD.cd wy MG aQ 546 547 548 103 1 0 0 3 247 true 181 248 .none (.ref 249) (.ref 250) (.ref 251) 550 103 551
def xP:=HD.fu wy MG (L2.inClass (ht 30) 4) eP 496 252
def AF:=HD.tp [(.str FO 553),(.str Dr 554),(.str XS 555),(.str uJ 556)]
def zb:=HD.dc [HD.e P gk 509 (.str eP 496),HD.e P gv 513 (.int (.ofNat 82) 512),HD.e P Be 523 (.ref 225),HD.e P Dj 530 (.ref 232),HD.e P C7 537 (.ref 239),HD.e P CC 545 (.ref 246),HD.e P wy 552 (.ref 253),HD.e P gf 557 (.ref 254),HD.e P SI 559 (.ref 257),HD.e P HF 561 (.ref 258),HD.e P IJ 562 .none] 4
noncomputable def yQ:Obj:=⟨(.type "type"),none,(.cls ⟨iT,[(.type "object")],[(.ref 256),(.type "object")],255,iT,true,[],[],false,none,false⟩),#[none,none,(some (.str iT 502)),(some (.str iT 510)),(some (.builtin "object.__new__")),(some (.bool true))]⟩
noncomputable def yI:Obj:=⟨(.type "getset_descriptor"),none,(.fields #[(.str SI 558),(.ref 256),(.builtin "function.__dict__"),(.builtin "function.__dict__#set")]),#[]⟩
noncomputable def zB:Obj:=⟨(.type "getset_descriptor"),none,(.fields #[(.str HF 560),(.ref 256),(.builtin "ExceptionGroup.__weakref__"), .none]),#[]⟩
def NL:=HD.su 256
def L6:=HD.bm (.builtin "object.__init_subclass__") (.ref 256)
def yz:=HD.tp [(.str XJ 568),(.str uJ 569),(.str FO 570)]
def L4:=HD.fs jY jY (ht 31)
def ze:=HD.cd jY jY aQ 565 566 567 107 1 0 0 3 261 true 181 262 .none (.ref 263) (.ref 264) (.ref 265) 571 107 572
def yf:=HD.fu jY jY (ht 31) eP 496 266
noncomputable def Zg9:List Stmt:=[ht 30,ht 31]
noncomputable def ZT9(P:Params):BT:=(HD.pK [af,gs,Ln P,af,M9,KR,Kt,af,aA,zh,af,KQ,AO,yg,af,aA,yB,af,NG,yR,yo,af,aA,zW,af,Mb,xM,Ay,af,aA,zU,af,Mn,yt,zk,af,aA,yT,af,KO,xQ,xP,AF,zb P,yQ,yI,zB,NL,L6,af,aA,yz,af,L4,ze,yf] (((ZT8 P).ins (nat_lit 3) (acC P)).ins (nat_lit 12) (Su)) (nat_lit 212))
noncomputable abbrev W8(w:World)(os:OsState):SharedT:=⟨ZT9 w.params,nat_lit 268,nL,Array.mk [],⟨0,0,0,0⟩,nat_lit 574,os⟩
noncomputable def Zq9:HD.kK (HD.F4):=λw=>(λos=>segRunT treeTable pw w (nat_lit 11) (some (.ref 6)) (nat_lit 1) (nat_lit 384) (Sd w os) (piecesOf Zg9 fR c8 ⟨81,0,81,11⟩ eY),λos=>some (Flow.next,W8 w os,c8,⟨107,0,116,35⟩))
theorem UM:HD.seg pw (nat_lit 11) (some (.ref 6)) (nat_lit 384) Sd W8 Zg9 fR c8 ⟨81,0,81,11⟩ ⟨107,0,116,35⟩ eY=Zq9:=by kernel_rfl
name_quick RA for Zq9 by UM
theorem Zi9(w:World):(Fast.RA w).1=(Fast.RA w).2:=by kernel_rfl
theorem Zh9:HD.Ok (HD.seg pw (nat_lit 11) (some (.ref 6)) (nat_lit 384) Sd W8 Zg9 fR c8 ⟨81,0,81,11⟩ ⟨107,0,116,35⟩ eY):=HD.jf Fast.RA_eq Zi9
def XH:=HD.dc [HD.e P Xb 165 (.str A8 681),HD.e P IJ 166 .none,HD.e P Xo 167 .none,HD.e P Xz 168 (.builtin "__main__.__loader__#opaque"),HD.e P Xc 169 .none,HD.e P wx 170 (.ref 6),HD.e P wB 171 (.ref 4),HD.e P wq 173 (.str aQ 172),HD.e P wH 174 .none,HD.e P iA 193 (.ref 21),HD.e P kq 220 (.ref 38),HD.e P kr 243 (.ref 58),HD.e P j9 266 (.ref 77),HD.e P ku 289 (.ref 96),HD.e P jV 312 (.ref 115),HD.e P mm 335 (.ref 134),HD.e P CB 339 (.int (.ofNat 600) 338),HD.e P Bz 341 (.int (.ofNat 40) 340),HD.e P Cu 343 (.int (.ofNat 99) 342),HD.e P CH 345 (.int (.ofNat 12) 344),HD.e P Dv 347 (.str Ds 346),HD.e P Bm 353 (.ref 137),HD.e P C8 418 (.ref 138),HD.e P G1 434 (.ref 158),HD.e P j8 441 (.ref 165),HD.e P ko 447 (.ref 170),HD.e P j6 453 (.ref 175),HD.e P kl 460 (.ref 182),HD.e P j4 466 (.ref 187),HD.e P ka 472 (.ref 192),HD.e P j3 479 (.ref 199),HD.e P j_ 487 (.ref 206),HD.e P kg 495 (.ref 211),HD.e P Io 499 (.str G9 498),HD.e P Gj 501 (.int (.ofNat 39) 500),HD.e P iT 564 (.ref 256),HD.e P jY 573 (.ref 267),HD.e P mn 584 (.ref 274),HD.e P lA 590 (.ref 279),HD.e P mR 599 (.ref 286),HD.e P mY 608 (.ref 293),HD.e P lF 624 (.ref 300),HD.e P mr 632 (.ref 307),HD.e P l6 640 (.ref 314),HD.e P LP 670 (.ref 324),HD.e P lW 680 (.ref 331),HD.e P lE 691 (.ref 338),HD.e P l_ 701 (.ref 345)] 48
def Mj:=HD.fa (Su) [(HD.i 117),(HD.i 0),(.ref 273),(HD.i 127),(HD.i 0),(.ref 278),(HD.i 131),(HD.i 0),(.ref 285),(HD.i 136),(HD.i 0),(.ref 292),(HD.i 144),(HD.i 0),(.ref 299),(HD.i 166),(HD.i 0),(.ref 306),(HD.i 168),(HD.i 0),(.ref 313),(HD.i 172),(HD.i 0),(.ref 330),(HD.i 178),(HD.i 0),(.ref 337),(HD.i 183),(HD.i 0),(.ref 344)]
def qA:=HD.tp [(.str uJ 577),(.str Lw 578),(.str B2 579),(.str XZ 580),(.str Tu 581)]
def Hf:=HD.fs mn mn (ht 32)
def sf:=HD.cd mn mn aQ 574 575 576 117 3 0 0 3 268 true 181 269 .none (.ref 270) (.ref 271) (.ref 272) 582 117 583
def pZ:=HD.fu mn mn (ht 32) eP 496 273
def FA:=HD.fs lA lA (ht 33)
def qT:=HD.cd lA lA aQ 585 586 587 127 1 0 0 3 275 true 181 276 .none .none .none (.ref 277) 588 127 589
def sS:=HD.fu lA lA (ht 33) eP 496 278
def tq:=HD.tp [(.str Bb 594),(.str d_ 595),(.str aaK 596)]
def Fq:=HD.fs mR mR (ht 34)
def sm:=HD.cd mR mR aQ 591 592 593 131 1 0 0 3 280 true 181 281 .none (.ref 282) (.ref 283) (.ref 284) 597 131 598
def sQ:=HD.fu mR mR (ht 34) eP 496 285
def q_:=HD.tp [(.str uJ 603),(.str Lw 604),(.str B2 605)]
def Gq:=HD.fs mY mY (ht 35)
def qc:=HD.cd mY mY aQ 600 601 602 136 3 0 0 3 287 true 181 288 .none (.ref 289) (.ref 290) (.ref 291) 606 136 607
def sk:=HD.fu mY mY (ht 35) eP 496 292
def se:=HD.tp [(.str K2 612),(.str B2 613),(.str FO 614),(.str ZH 615),(.str YV 616),(.str Lw 617),(.str wR 618),(.str uJ 619),(.str Tu 620),(.str wy 621)]
def HZ:=HD.fs lF lF (ht 36)
def rW:=HD.cd lF lF aQ 609 610 611 144 3 0 0 3 294 true 181 295 .none (.ref 296) (.ref 297) (.ref 298) 622 144 623
def qE:=HD.fu lF lF (ht 36) eP 496 299
def qF:=HD.tp [(.str K2 628),(.str B2 629)]
def Ho:=HD.fs mr mr (ht 37)
def rY:=HD.cd mr mr aQ 625 626 627 166 2 0 0 3 301 true 181 302 .none (.ref 303) (.ref 304) (.ref 305) 630 166 631
def rD:=HD.fu mr mr (ht 37) eP 496 306
def rT:=HD.tp [(.str K2 636),(.str B2 637)]
def F3:=HD.fs l6 l6 (ht 38)
def qG:=HD.cd l6 l6 aQ 633 634 635 168 2 0 0 3 308 true 181 309 .none (.ref 310) (.ref 311) (.ref 312) 638 168 639
def rN:=HD.fu l6 l6 (ht 38) eP 496 313
def qy:=HD.tp [(.str ZM 643),(.str RZ 644),(.str Y3 645)]
def sO:=HD.tp [(.str YT 646),(.str RZ 647),(.str aax 648)]
def rL:=HD.tp [(.str Zq 649),(.str YO 650),(.str YW 651)]
def qj:=HD.tp [(.str aag 652),(.str ZF 653),(.str Zi 654)]
def sJ:=HD.tp [(.str aa8 655),(.str aaS 656),(.str aam 657)]
def sj:=HD.tp [(.str XY 658),(.str aad 659),(.str aaY 660)]
def rP:=HD.tp [(.str YN 661),(.str ZJ 662),(.str ZV 663)]
def qL:=HD.tp [(.str aaM 664),(.str Zz 665),(.str aaj 666)]
def qH:=HD.tp [(.str YF 667),(.str aaF 668),(.str Yt 669)]
def rV:=HD.tp [(.ref 315),(.ref 316),(.ref 317),(.ref 318),(.ref 319),(.ref 320),(.ref 321),(.ref 322),(.ref 323)]
def qb:=HD.tp [(.str uy 674),(.str Dr 675),(.str iC 676),(.str eh 677)]
def HV:=HD.fs lW lW (ht 41)
def qZ:=HD.cd lW lW aQ 671 672 673 172 0 0 0 3 325 true 181 326 .none (.ref 327) (.ref 328) (.ref 329) 678 172 679
def qK:=HD.fu lW lW (ht 41) Yr 641 330
def pU:=HD.tp [(.str d_ 686),(.str Bb 687),(.str Lh 688)]
def FT:=HD.fs lE lE (ht 43)
def tI:=HD.cd lE lE aQ 683 684 685 178 2 0 0 3 332 true 181 333 .none (.ref 334) (.ref 335) (.ref 336) 689 178 690
def rR:=HD.fu lE lE (ht 43) A8 681 337
def pQ:=HD.tp [(.str d_ 695),(.str wR 696),(.str Ip 697),(.str Bb 698)]
def H_:=HD.fs l_ l_ (ht 44)
def qU:=HD.cd l_ l_ aQ 692 693 694 183 2 0 0 3 339 true 181 340 .none (.ref 341) (.ref 342) (.ref 343) 699 183 700
def so:=HD.fu l_ l_ (ht 44) A8 681 344
noncomputable def Po:List Stmt:=[ht 32,ht 33,ht 34,ht 35,ht 36,ht 37,ht 38,ht 39,ht 40,ht 41,ht 42,ht 43,ht 44]
noncomputable def aaT(P:Params):BT:=(HD.pK [af,aA,qA,af,Hf,sf,pZ,af,aA,FA,qT,sS,af,aA,tq,af,Fq,sm,sQ,af,aA,q_,af,Gq,qc,sk,af,aA,se,af,HZ,rW,qE,af,aA,qF,af,Ho,rY,rD,af,aA,rT,af,F3,qG,rN,qy,sO,rL,qj,sJ,sj,rP,qL,qH,rV,af,aA,qb,af,HV,qZ,qK,af,aA,pU,af,FT,tI,rR,af,aA,pQ,af,H_,qU,so] (((ZT9 P).ins (nat_lit 3) (XH P)).ins (nat_lit 12) (Mj)) (nat_lit 268))
noncomputable abbrev B4(w:World)(os:OsState):SharedT:=⟨aaT w.params,nat_lit 346,nL,Array.mk [],⟨0,0,0,0⟩,nat_lit 702,os⟩
noncomputable def Z8:HD.kK (HD.F4):=λw=>(λos=>segRunT treeTable pw w (nat_lit 11) (some (.ref 6)) (nat_lit 1) (nat_lit 388) (W8 w os) (piecesOf Po fR c8 ⟨107,0,116,35⟩ eY),λos=>some (Flow.next,B4 w os,c8,⟨183,0,187,15⟩))
theorem QR:HD.seg pw (nat_lit 11) (some (.ref 6)) (nat_lit 388) W8 B4 Po fR c8 ⟨107,0,116,35⟩ ⟨183,0,187,15⟩ eY=Z8:=by kernel_rfl
name_quick K4 for Z8 by QR
theorem acB(w:World):(Fast.K4 w).1=(Fast.K4 w).2:=by kernel_rfl
theorem acG:HD.Ok (HD.seg pw (nat_lit 11) (some (.ref 6)) (nat_lit 388) W8 B4 Po fR c8 ⟨107,0,116,35⟩ ⟨183,0,187,15⟩ eY):=HD.jf Fast.K4_eq acB
def X8:=HD.dc [HD.e P Xb 165 (.str wU 754),HD.e P IJ 166 .none,HD.e P Xo 167 .none,HD.e P Xz 168 (.builtin "__main__.__loader__#opaque"),HD.e P Xc 169 .none,HD.e P wx 170 (.ref 6),HD.e P wB 171 (.ref 4),HD.e P wq 173 (.str aQ 172),HD.e P wH 174 .none,HD.e P iA 193 (.ref 21),HD.e P kq 220 (.ref 38),HD.e P kr 243 (.ref 58),HD.e P j9 266 (.ref 77),HD.e P ku 289 (.ref 96),HD.e P jV 312 (.ref 115),HD.e P mm 335 (.ref 134),HD.e P CB 339 (.int (.ofNat 600) 338),HD.e P Bz 341 (.int (.ofNat 40) 340),HD.e P Cu 343 (.int (.ofNat 99) 342),HD.e P CH 345 (.int (.ofNat 12) 344),HD.e P Dv 347 (.str Ds 346),HD.e P Bm 353 (.ref 137),HD.e P C8 418 (.ref 138),HD.e P G1 434 (.ref 158),HD.e P j8 441 (.ref 165),HD.e P ko 447 (.ref 170),HD.e P j6 453 (.ref 175),HD.e P kl 460 (.ref 182),HD.e P j4 466 (.ref 187),HD.e P ka 472 (.ref 192),HD.e P j3 479 (.ref 199),HD.e P j_ 487 (.ref 206),HD.e P kg 495 (.ref 211),HD.e P Io 499 (.str G9 498),HD.e P Gj 501 (.int (.ofNat 39) 500),HD.e P iT 564 (.ref 256),HD.e P jY 573 (.ref 267),HD.e P mn 584 (.ref 274),HD.e P lA 590 (.ref 279),HD.e P mR 599 (.ref 286),HD.e P mY 608 (.ref 293),HD.e P lF 624 (.ref 300),HD.e P mr 632 (.ref 307),HD.e P l6 640 (.ref 314),HD.e P LP 670 (.ref 324),HD.e P lW 680 (.ref 331),HD.e P lE 691 (.ref 338),HD.e P l_ 701 (.ref 345),HD.e P n8 712 (.ref 352),HD.e P oE 721 (.ref 359),HD.e P oK 729 (.ref 364),HD.e P oH 741 (.ref 371),HD.e P o9 753 (.ref 378),HD.e P Tg 784 (.ref 379),HD.e P oZ 795 (.ref 397),HD.e P n9 803 (.ref 404),HD.e P om 812 (.ref 411)] 57
def K7:=HD.fa (Mj) [(HD.i 188),(HD.i 0),(.ref 351),(HD.i 195),(HD.i 0),(.ref 358),(HD.i 198),(HD.i 0),(.ref 363),(HD.i 203),(HD.i 0),(.ref 370),(HD.i 208),(HD.i 0),(.ref 377),(HD.i 217),(HD.i 0),(.ref 396),(HD.i 224),(HD.i 0),(.ref 403),(HD.i 227),(HD.i 0),(.ref 410)]
def ql:=HD.tp [(.str d_ 705),(.str wR 706),(.str RG 707),(.str R3 708),(.str Lh 709)]
def Hg:=HD.fs n8 n8 (ht 45)
def qr:=HD.cd n8 n8 aQ 702 703 704 188 3 0 0 3 346 true 181 347 .none (.ref 348) (.ref 349) (.ref 350) 710 188 711
def sI:=HD.fu n8 n8 (ht 45) A8 681 351
def sM:=HD.tp [(.str d_ 716),(.str wR 717),(.str RG 718)]
def FC:=HD.fs oE oE (ht 46)
def rh:=HD.cd oE oE aQ 713 714 715 195 3 0 0 3 353 true 181 354 .none (.ref 355) (.ref 356) (.ref 357) 719 195 720
def tE:=HD.fu oE oE (ht 46) A8 681 358
def G8:=HD.fs oK oK (ht 48)
def sF:=HD.cd oK oK aQ 724 725 726 198 3 0 0 3 360 true 181 361 .none .none .none (.ref 362) 727 198 728
def rX:=HD.fu oK oK (ht 48) Ma 722 363
def r_:=HD.tp [(.str d_ 733),(.str SU 734),(.str RB 735),(.str SH 736)]
def pY:=HD.tp [(.str SU 737),(.str RB 738)]
def Gm:=HD.fs oH oH (ht 49)
def qu:=HD.cd oH oH aQ 730 731 732 203 3 0 0 3 365 true 181 366 .none (.ref 367) (.ref 368) (.ref 369) 739 203 740
def qC:=HD.fu oH oH (ht 49) Ma 722 370
def rO:=HD.tp [(.str d_ 745),(.str SA 746),(.str Rq 747),(.str SH 748)]
def rE:=HD.tp [(.str SA 749),(.str Rq 750)]
def Gd:=HD.fs o9 o9 (ht 50)
def sP:=HD.cd o9 o9 aQ 742 743 744 208 3 0 0 3 372 true 181 373 .none (.ref 374) (.ref 375) (.ref 376) 751 208 752
def qS:=HD.fu o9 o9 (ht 50) Ma 722 377
def qa:=HD.dc [HD.e P TJ 756 (.ref 381),HD.e P N9 760 (.ref 384),HD.e P KS 767 (.ref 386),HD.e P N1 771 (.ref 388),HD.e P LG 775 (.ref 390)] 5
def qz:=HD.tp [(.int (.ofNat 1) 757),(.str HQ 758),(.str HQ 759)]
def qP:=HD.tp [(.ref 380)]
def rA:=HD.tp [(.int (.ofNat 4) 761),(.str MS 762),(.str MS 763)]
def sW:=HD.tp [(.int (.ofNat 4) 764),(.str Vn 765),(.str Vn 766)]
def qO:=HD.tp [(.ref 382),(.ref 383)]
def qx:=HD.tp [(.int (.ofNat 3) 768),(.str ND 769),(.str ND 770)]
def qk:=HD.tp [(.ref 385)]
def qo:=HD.tp [(.int (.ofNat 1) 772),(.str LI 773),(.str N1 774)]
def pV:=HD.tp [(.ref 387)]
def qN:=HD.tp [(.int (.ofNat 1) 776),(.str LI 777),(.str LG 778)]
def sL:=HD.tp [(.ref 389)]
def tD:=HD.tp [(.str d_ 788),(.str uy 789),(.str aaN 790),(.str uJ 791),(.str Ca 792)]
def Hr:=HD.fs oZ oZ (ht 53)
def qB:=HD.cd oZ oZ aQ 785 786 787 217 2 0 0 3 391 true 181 392 .none (.ref 393) (.ref 394) (.ref 395) 793 217 794
def sU:=HD.fu oZ oZ (ht 53) wU 754 396
def pP:=HD.tp [(.str d_ 799),(.str Bb 800)]
def Hi:=HD.fs n9 n9 (ht 54)
def qv:=HD.cd n9 n9 aQ 796 797 798 224 1 0 0 3 398 true 181 399 .none (.ref 400) (.ref 401) (.ref 402) 801 224 802
def qD:=HD.fu n9 n9 (ht 54) wU 754 403
def sC:=HD.tp [(.str d_ 807),(.str Ca 808),(.str uy 809)]
def GH:=HD.fs om om (ht 55)
def sT:=HD.cd om om aQ 804 805 806 227 3 0 0 3 405 true 181 406 .none (.ref 407) (.ref 408) (.ref 409) 810 227 811
def tG:=HD.fu om om (ht 55) wU 754 410
noncomputable def Jp:List Stmt:=[ht 45,ht 46,ht 47,ht 48,ht 49,ht 50,ht 51,ht 52,ht 53,ht 54,ht 55]
noncomputable def Yh(P:Params):BT:=(HD.pK [af,aA,ql,af,Hg,qr,sI,af,aA,sM,af,FC,rh,tE,af,aA,G8,sF,rX,af,aA,r_,pY,Gm,qu,qC,af,aA,rO,rE,Gd,sP,qS,qa P,qz,qP,rA,sW,qO,qx,qk,qo,pV,qN,sL,af,aA,tD,af,Hr,qB,sU,af,aA,pP,af,Hi,qv,qD,af,aA,sC,af,GH,sT,tG] (((aaT P).ins (nat_lit 3) (X8 P)).ins (nat_lit 12) (K7)) (nat_lit 346))
noncomputable abbrev Cy(w:World)(os:OsState):SharedT:=⟨Yh w.params,nat_lit 412,nL,Array.mk [],⟨0,0,0,0⟩,nat_lit 813,os⟩
noncomputable def Si:HD.kK (HD.F4):=λw=>(λos=>segRunT treeTable pw (w.withFollow "special-get-raises" false) (nat_lit 11) (some (.ref 6)) (nat_lit 1) (nat_lit 391) (B4 (w.withFollow "special-get-raises" false) os) (piecesOf Jp fR c8 ⟨183,0,187,15⟩ eY),λos=>some (Flow.next,Cy (w.withFollow "special-get-raises" false) os,c8,⟨227,0,238,19⟩))
theorem Mt:(λw:World=>HD.seg pw (nat_lit 11) (some (.ref 6)) (nat_lit 391) B4 Cy Jp fR c8 ⟨183,0,187,15⟩ ⟨227,0,238,19⟩ eY (w.withFollow "special-get-raises" false))=Si:=by kernel_rfl
name_quick Hc for Si by Mt
theorem Zw(w:World):(Fast.Hc w).1=(Fast.Hc w).2:=by kernel_rfl
noncomputable def Sy:HD.kK (HD.F4):=λw=>(λos=>segRunT treeTable pw (w.withFollow "special-get-raises" true) (nat_lit 11) (some (.ref 6)) (nat_lit 1) (nat_lit 391) (B4 (w.withFollow "special-get-raises" true) os) (piecesOf Jp fR c8 ⟨183,0,187,15⟩ eY),λos=>some (Flow.next,Cy (w.withFollow "special-get-raises" true) os,c8,⟨227,0,238,19⟩))
theorem Ki:(λw:World=>HD.seg pw (nat_lit 11) (some (.ref 6)) (nat_lit 391) B4 Cy Jp fR c8 ⟨183,0,187,15⟩ ⟨227,0,238,19⟩ eY (w.withFollow "special-get-raises" true))=Sy:=by kernel_rfl
name_quick FE for Sy by Ki
theorem Z0(w:World):(Fast.FE w).1=(Fast.FE w).2:=by kernel_rfl
theorem acD:HD.Ok (HD.seg pw (nat_lit 11) (some (.ref 6)) (nat_lit 391) B4 Cy Jp fR c8 ⟨183,0,187,15⟩ ⟨227,0,238,19⟩ eY):=HD.EE "special-get-raises" Fast.Hc_eq Fast.FE_eq Zw Z0
def GC:=HD.dc [HD.e P Xb 165 (.str Bk 862),HD.e P IJ 166 .none,HD.e P Xo 167 .none,HD.e P Xz 168 (.builtin "__main__.__loader__#opaque"),HD.e P Xc 169 .none,HD.e P wx 170 (.ref 6),HD.e P wB 171 (.ref 4),HD.e P wq 173 (.str aQ 172),HD.e P wH 174 .none,HD.e P iA 193 (.ref 21),HD.e P kq 220 (.ref 38),HD.e P kr 243 (.ref 58),HD.e P j9 266 (.ref 77),HD.e P ku 289 (.ref 96),HD.e P jV 312 (.ref 115),HD.e P mm 335 (.ref 134),HD.e P CB 339 (.int (.ofNat 600) 338),HD.e P Bz 341 (.int (.ofNat 40) 340),HD.e P Cu 343 (.int (.ofNat 99) 342),HD.e P CH 345 (.int (.ofNat 12) 344),HD.e P Dv 347 (.str Ds 346),HD.e P Bm 353 (.ref 137),HD.e P C8 418 (.ref 138),HD.e P G1 434 (.ref 158),HD.e P j8 441 (.ref 165),HD.e P ko 447 (.ref 170),HD.e P j6 453 (.ref 175),HD.e P kl 460 (.ref 182),HD.e P j4 466 (.ref 187),HD.e P ka 472 (.ref 192),HD.e P j3 479 (.ref 199),HD.e P j_ 487 (.ref 206),HD.e P kg 495 (.ref 211),HD.e P Io 499 (.str G9 498),HD.e P Gj 501 (.int (.ofNat 39) 500),HD.e P iT 564 (.ref 256),HD.e P jY 573 (.ref 267),HD.e P mn 584 (.ref 274),HD.e P lA 590 (.ref 279),HD.e P mR 599 (.ref 286),HD.e P mY 608 (.ref 293),HD.e P lF 624 (.ref 300),HD.e P mr 632 (.ref 307),HD.e P l6 640 (.ref 314),HD.e P LP 670 (.ref 324),HD.e P lW 680 (.ref 331),HD.e P lE 691 (.ref 338),HD.e P l_ 701 (.ref 345),HD.e P n8 712 (.ref 352),HD.e P oE 721 (.ref 359),HD.e P oK 729 (.ref 364),HD.e P oH 741 (.ref 371),HD.e P o9 753 (.ref 378),HD.e P Tg 784 (.ref 379),HD.e P oZ 795 (.ref 397),HD.e P n9 803 (.ref 404),HD.e P om 812 (.ref 411),HD.e P uK 823 (.ref 418),HD.e P vo 835 (.ref 425),HD.e P u4 849 (.ref 432),HD.e P uQ 861 (.ref 439),HD.e P tQ 871 (.ref 446),HD.e P vj 877 (.ref 451),HD.e P uE 886 (.ref 458),HD.e P ue 900 (.ref 465)] 65
def M7:=HD.fa (K7) [(HD.i 239),(HD.i 0),(.ref 417),(HD.i 245),(HD.i 0),(.ref 424),(HD.i 255),(HD.i 0),(.ref 431),(HD.i 266),(HD.i 0),(.ref 438),(HD.i 274),(HD.i 0),(.ref 445),(HD.i 278),(HD.i 0),(.ref 450),(HD.i 284),(HD.i 0),(.ref 457),(HD.i 289),(HD.i 0),(.ref 464)]
def qR:=HD.tp [(.str d_ 816),(.str wR 817),(.str uy 818),(.str Ip 819),(.str Ca 820)]
def Gk:=HD.fs uK uK (ht 56)
def rZ:=HD.cd uK uK aQ 813 814 815 239 3 0 0 3 412 true 181 413 .none (.ref 414) (.ref 415) (.ref 416) 821 239 822
def tj:=HD.fu uK uK (ht 56) wU 754 417
def qw:=HD.tp [(.str d_ 827),(.str uy 828),(.str Ca 829),(.str Bb 830),(.str R3 831),(.str S_ 832)]
def Im:=HD.fs vo vo (ht 57)
def sD:=HD.cd vo vo aQ 824 825 826 245 2 0 0 3 419 true 181 420 .none (.ref 421) (.ref 422) (.ref 423) 833 245 834
def tH:=HD.fu vo vo (ht 57) wU 754 424
def sZ:=HD.tp [(.str d_ 841),(.str Z2 842),(.str uy 843),(.str Ip 844),(.str Ry 845),(.str S_ 846)]
def GF:=HD.fs u4 u4 (ht 59)
def qI:=HD.cd u4 u4 aQ 838 839 840 255 3 0 0 3 426 true 181 427 .none (.ref 428) (.ref 429) (.ref 430) 847 255 848
def sN:=HD.fu u4 u4 (ht 59) Sm 836 431
def p_:=HD.tp [(.str d_ 853),(.str Ry 854),(.str uy 855),(.str Ip 856),(.str wR 857),(.str Ca 858)]
def HE:=HD.fs uQ uQ (ht 60)
def rj:=HD.cd uQ uQ aQ 850 851 852 266 3 0 0 3 433 true 181 434 .none (.ref 435) (.ref 436) (.ref 437) 859 266 860
def rm:=HD.fu uQ uQ (ht 60) Sm 836 438
def qh:=HD.tp [(.str Rv 867),(.str Sh 868)]
def G2:=HD.fs tQ tQ (ht 62)
def rK:=HD.cd tQ tQ aQ 864 865 866 274 2 0 0 3 440 true 181 441 .none (.ref 442) (.ref 443) (.ref 444) 869 274 870
def rS:=HD.fu tQ tQ (ht 62) Bk 862 445
def Gu:=HD.fs vj vj (ht 63)
def qQ:=HD.cd vj vj aQ 872 873 874 278 2 0 0 3 447 true 181 448 .none .none .none (.ref 449) 875 278 876
def rF:=HD.fu vj vj (ht 63) Bk 862 450
def pX:=HD.tp [(.str aaQ 881),(.str aao 882),(.str Sh 883)]
def F0:=HD.fs uE uE (ht 64)
def tF:=HD.cd uE uE aQ 878 879 880 284 1 0 0 3 452 true 181 453 .none (.ref 454) (.ref 455) (.ref 456) 884 284 885
def pS:=HD.fu uE uE (ht 64) Bk 862 457
def qm:=HD.tp [(.str Rv 890),(.str aay 891),(.str ZK 892),(.str aaa 893),(.str aaP 894),(.str aaZ 895),(.str XM 896),(.str Zg 897)]
def Ie:=HD.fs ue ue (ht 65)
def rQ:=HD.cd ue ue aQ 887 888 889 289 1 0 0 3 459 true 181 460 .none (.ref 461) (.ref 462) (.ref 463) 898 289 899
def pR:=HD.fu ue ue (ht 65) Bk 862 464
noncomputable def Rh:List Stmt:=[ht 56,ht 57,ht 58,ht 59,ht 60,ht 61,ht 62,ht 63,ht 64,ht 65]
noncomputable def abU(P:Params):BT:=(HD.pK [af,aA,qR,af,Gk,rZ,tj,af,aA,qw,af,Im,sD,tH,af,aA,sZ,af,GF,qI,sN,af,aA,p_,af,HE,rj,rm,af,aA,qh,af,G2,rK,rS,af,aA,Gu,qQ,rF,af,aA,pX,af,F0,tF,pS,af,aA,qm,af,Ie,rQ,pR] (((Yh P).ins (nat_lit 3) (GC P)).ins (nat_lit 12) (M7)) (nat_lit 412))
noncomputable abbrev IY(w:World)(os:OsState):SharedT:=⟨abU w.params,nat_lit 466,nL,Array.mk [],⟨0,0,0,0⟩,nat_lit 901,os⟩
noncomputable def YG:HD.kK (HD.F4):=λw=>(λos=>segRunT treeTable pw w (nat_lit 11) (some (.ref 6)) (nat_lit 1) (nat_lit 277) (Cy w os) (piecesOf Rh fR c8 ⟨227,0,238,19⟩ eY),λos=>some (Flow.next,IY w os,c8,⟨289,0,306,132⟩))
theorem Pg:HD.seg pw (nat_lit 11) (some (.ref 6)) (nat_lit 277) Cy IY Rh fR c8 ⟨227,0,238,19⟩ ⟨289,0,306,132⟩ eY=YG:=by kernel_rfl
name_quick KU for YG by Pg
theorem abB(w:World):(Fast.KU w).1=(Fast.KU w).2:=by kernel_rfl
theorem ab3:HD.Ok (HD.seg pw (nat_lit 11) (some (.ref 6)) (nat_lit 277) Cy IY Rh fR c8 ⟨227,0,238,19⟩ ⟨289,0,306,132⟩ eY):=HD.jf Fast.KU_eq abB
noncomputable def Za(r:List (Obj)):List (Obj):=PySem.W.boot_o_0 P::PySem.W.boot_o_1 P::PySem.W.boot_o_2 P::GC P::PySem.W.boot_o_4 P::PySem.W.boot_o_5 P::PySem.W.boot_o_6 P::PySem.W.boot_o_7 P::PySem.W.boot_o_8 P::PySem.W.boot_o_9 P::PySem.W.boot_o_10 P::af::r
noncomputable def Z5(r:List (Obj)):List (Obj):=M7::Kw::J9::af::aA::He::af::R4::FJ::Ge::GQ::gs::r
noncomputable def aat(r:List (Obj)):List (Obj):=Sv P::af::Tv::Sx::S0::af::aA::Hw::af::Ss::Hv::FR::r
noncomputable def Yg(r:List (Obj)):List (Obj):=af::Ib P::GR::Fz::Rr::RE::dP::gs::RN P::af::Tt::Tn::r
noncomputable def Y9(r:List (Obj)):List (Obj):=Sf::af::aA::GW::af::TU::Hm::Gf::af::HX P::Hd::SV::r
noncomputable def Zx(r:List (Obj)):List (Obj):=Tf::dP::gs::RI P::af::TN::Sl::Sa::af::aA::FU::af::r
noncomputable def aae(r:List (Obj)):List (Obj):=R9::G4::Ht::af::Hx P::G5::TM::SS::dP::gs::SQ P::af::r
noncomputable def ZL(r:List (Obj)):List (Obj):=SJ::R6::S3::af::aA::HN::af::RT::FX::G7::af::Ia P::r
noncomputable def ZU(r:List (Obj)):List (Obj):=FI::TF::S9::dP::gs::Lx P::af::Kn::L9::N7::af::aA::r
noncomputable def YA(r:List (Obj)):List (Obj):=zi::af::KH::yJ::yZ::af::yx P::xI::LL::N_::dP::gs::r
noncomputable def Ug(r:List (Obj)):List (Obj):=MR P::af::LJ::Lv::Mx::af::aA::zq::af::Ls::xZ::Aa::r
noncomputable def UG(r:List (Obj)):List (Obj):=af::zY P::AA::Me::Le::yK::yC P::af::af::xY::zl::yE::r
noncomputable def Wo(r:List (Obj)):List (Obj):=af::AW::zP::af::yh::AX::zr::Ac::AI::z0::Aj::yF::r
noncomputable def Vm(r:List (Obj)):List (Obj):=MB P::af::xT P::af::aA::zV::af::ML::Au::zp::af::aA::r
noncomputable def WT(r:List (Obj)):List (Obj):=Ny::yV::xX::af::aA::MW::AK::zR::af::aA::zF::af::r
noncomputable def US(r:List (Obj)):List (Obj):=L8::xS::yA::af::aA::Li::zj::AV::af::aA::N3::Ag::r
noncomputable def Wy(r:List (Obj)):List (Obj):=Az::af::aA::zy::af::Nu::AE::xH::af::aA::zL::af::r
noncomputable def V8(r:List (Obj)):List (Obj):=M0::yb::yq::af::aA::Kh::xR::z4::af::gs::Ln P::af::r
noncomputable def V2(r:List (Obj)):List (Obj):=M9::KR::Kt::af::aA::zh::af::KQ::AO::yg::af::aA::r
noncomputable def V5(r:List (Obj)):List (Obj):=yB::af::NG::yR::yo::af::aA::zW::af::Mb::xM::Ay::r
noncomputable def WJ(r:List (Obj)):List (Obj):=af::aA::zU::af::Mn::yt::zk::af::aA::yT::af::KO::r
noncomputable def T6(r:List (Obj)):List (Obj):=xQ::xP::AF::zb P::yQ::yI::zB::NL::L6::af::aA::yz::r
noncomputable def UB(r:List (Obj)):List (Obj):=af::L4::ze::yf::af::aA::qA::af::Hf::sf::pZ::af::r
noncomputable def Wx(r:List (Obj)):List (Obj):=aA::FA::qT::sS::af::aA::tq::af::Fq::sm::sQ::af::r
noncomputable def VC(r:List (Obj)):List (Obj):=aA::q_::af::Gq::qc::sk::af::aA::se::af::HZ::rW::r
noncomputable def Uo(r:List (Obj)):List (Obj):=qE::af::aA::qF::af::Ho::rY::rD::af::aA::rT::af::r
noncomputable def Wm(r:List (Obj)):List (Obj):=F3::qG::rN::qy::sO::rL::qj::sJ::sj::rP::qL::qH::r
noncomputable def VP(r:List (Obj)):List (Obj):=rV::af::aA::qb::af::HV::qZ::qK::af::aA::pU::af::r
noncomputable def Vq(r:List (Obj)):List (Obj):=FT::tI::rR::af::aA::pQ::af::H_::qU::so::af::aA::r
noncomputable def Uw(r:List (Obj)):List (Obj):=ql::af::Hg::qr::sI::af::aA::sM::af::FC::rh::tE::r
noncomputable def VL(r:List (Obj)):List (Obj):=af::aA::G8::sF::rX::af::aA::r_::pY::Gm::qu::qC::r
noncomputable def U3(r:List (Obj)):List (Obj):=af::aA::rO::rE::Gd::sP::qS::qa P::qz::qP::rA::sW::r
noncomputable def WB(r:List (Obj)):List (Obj):=qO::qx::qk::qo::pV::qN::sL::af::aA::tD::af::Hr::r
noncomputable def U0(r:List (Obj)):List (Obj):=qB::sU::af::aA::pP::af::Hi::qv::qD::af::aA::sC::r
noncomputable def UN(r:List (Obj)):List (Obj):=af::GH::sT::tG::af::aA::qR::af::Gk::rZ::tj::af::r
noncomputable def VY(r:List (Obj)):List (Obj):=aA::qw::af::Im::sD::tH::af::aA::sZ::af::GF::qI::r
noncomputable def T4(r:List (Obj)):List (Obj):=sN::af::aA::p_::af::HE::rj::rm::af::aA::qh::af::r
noncomputable def Vp(r:List (Obj)):List (Obj):=G2::rK::rS::af::aA::Gu::qQ::rF::af::aA::pX::af::r
noncomputable def U1(r:List (Obj)):List (Obj):=F0::tF::pS::af::aA::qm::af::Ie::rQ::pR::r
noncomputable def Of(P:Params):Heap:=⟨Array.mk (Za P (Z5 (aat P (Yg P (Y9 P (Zx P (aae P (ZL P (ZU P (YA P (Ug P (UG P (Wo (Vm P (WT (US (Wy (V8 P (V2 (V5 (WJ (T6 P (UB (Wx (VC (Uo (Wm (VP (Vq (Uw (VL (U3 P (WB (U0 (UN (VY (T4 (Vp (U1 []))))))))))))))))))))))))))))))))))))))),⟨[],[],[],0,[],[],false,#[],[],0,false,false,false,(.ofNat 0),[(.ofNat 2000),(.ofNat 10),(.ofNat 10)],false,0,true,[],[],0,false⟩⟩
noncomputable def Vy:Drawn:=⟨0,0,0,0⟩
noncomputable def VI:Nat:=nat_lit 901
noncomputable abbrev SY:World->OsState->Shared:=HD.XG Of Vy VI
noncomputable def Zqz:HD.kK (Option Shared):=λw=>(λos=>topRun treeTable pw w (nat_lit 11) (some (.ref 6)) (nat_lit 2) (IY w os).abs (Thread.mk (doneF Flow.next) c8 ⟨289,0,306,132⟩ eY),λos=>some (SY w os))
theorem Vu:HD.fin pw (nat_lit 11) (some (.ref 6)) (nat_lit 2) IY SY (Thread.mk (doneF Flow.next) c8 ⟨289,0,306,132⟩ eY)=Zqz:=by kernel_rfl
name_quick R8 for Zqz by Vu
theorem Ziz(w:World):(Fast.R8 w).1=(Fast.R8 w).2:=by kernel_rfl
theorem Zhz:HD.Ok (HD.fin pw (nat_lit 11) (some (.ref 6)) (nat_lit 2) IY SY (Thread.mk (doneF Flow.next) c8 ⟨289,0,306,132⟩ eY)):=HD.jf Fast.R8_eq Ziz
theorem ab9:behindTheImports pw=(Zg1++(Zg2++(Zg3++(Zg4++(Zg5++(Zg6++(Xh++(Xs++(Zg9++(Po++(Jp++(Rh++([]:List Stmt))))))))))))):=by kernel_rfl
theorem aaG:HD.Goes pw (nat_lit 11) (some (.ref 6)) SY (nat_lit 12+(nat_lit 1+(nat_lit 255+(nat_lit 244+(nat_lit 244+(nat_lit 244+(nat_lit 244+(nat_lit 313+(nat_lit 340+(nat_lit 369+(nat_lit 384+(nat_lit 388+(nat_lit 391+(nat_lit 277+(nat_lit 2))))))))))))))) ZS0 (topStub pw):=HD.aah Zha (HD.YE ab9 Zhb (HD.iB Zh1 (HD.iB Zh2 (HD.iB Zh3 (HD.iB Zh4 (HD.iB Zh5 (HD.iB Zh6 (HD.iB Zh7 (HD.iB Zh8 (HD.iB Zh9 (HD.iB acG (HD.iB acD (HD.iB ab3 (HD.Y6 (env:=fR) Zhz))))))))))))))
noncomputable def hq:Program:=HD.view pw [ht 0,ht 2,ht 3,ht 4,ht 5,ht 6,ht 7,ht 9,ht 10,ht 11,ht 12,ht 13,ht 14,ht 15,ht 16,ht 17,ht 18,ht 19,ht 20,ht 21,ht 22,ht 23,ht 24,ht 26,ht 28,ht 29,ht 30,ht 31,ht 32,ht 33,ht 34,ht 35,ht 36,ht 37,ht 38,ht 40,ht 41,ht 43,ht 44,ht 45,ht 46,ht 48,ht 49,ht 50,ht 52,ht 53,ht 54,ht 55,ht 56,ht 57,ht 59,ht 60,ht 62,ht 63,ht 64,ht 65]
noncomputable def hl:List Str:=[PySem.Str.ofString "KIDS_DUE",PySem.Str.ofString "BINDER_OVER",PySem.Str.ofString "RULES"]
noncomputable def XO(r:List (Addr×Obj)):List (Addr×Obj):=(nat_lit 2,PySem.W.boot_o_2 P)::(nat_lit 3,GC P)::(nat_lit 15,af)::(nat_lit 17,He)::(nat_lit 18,af)::(nat_lit 20,FJ)::(nat_lit 21,Ge)::(nat_lit 22,GQ)::(nat_lit 29,af)::(nat_lit 31,Hw)::(nat_lit 32,af)::(nat_lit 34,Hv)::r
noncomputable def aaA(r:List (Addr×Obj)):List (Addr×Obj):=(nat_lit 35,FR)::(nat_lit 36,af)::(nat_lit 37,Ib P)::(nat_lit 38,GR)::(nat_lit 39,Fz)::(nat_lit 42,dP)::(nat_lit 49,af)::(nat_lit 51,GW)::(nat_lit 52,af)::(nat_lit 54,Hm)::(nat_lit 55,Gf)::(nat_lit 56,af)::r
noncomputable def Y2(r:List (Addr×Obj)):List (Addr×Obj):=(nat_lit 57,HX P)::(nat_lit 58,Hd)::(nat_lit 61,dP)::(nat_lit 68,af)::(nat_lit 70,FU)::(nat_lit 71,af)::(nat_lit 73,G4)::(nat_lit 74,Ht)::(nat_lit 75,af)::(nat_lit 76,Hx P)::(nat_lit 77,G5)::(nat_lit 80,dP)::r
noncomputable def aaD(r:List (Addr×Obj)):List (Addr×Obj):=(nat_lit 87,af)::(nat_lit 89,HN)::(nat_lit 90,af)::(nat_lit 92,FX)::(nat_lit 93,G7)::(nat_lit 94,af)::(nat_lit 95,Ia P)::(nat_lit 96,FI)::(nat_lit 99,dP)::(nat_lit 106,af)::(nat_lit 108,zi)::(nat_lit 109,af)::r
noncomputable def Yn(r:List (Addr×Obj)):List (Addr×Obj):=(nat_lit 111,yJ)::(nat_lit 112,yZ)::(nat_lit 113,af)::(nat_lit 114,yx P)::(nat_lit 115,xI)::(nat_lit 118,dP)::(nat_lit 125,af)::(nat_lit 127,zq)::(nat_lit 128,af)::(nat_lit 130,xZ)::(nat_lit 131,Aa)::(nat_lit 132,af)::r
noncomputable def aa2(r:List (Addr×Obj)):List (Addr×Obj):=(nat_lit 133,zY P)::(nat_lit 134,AA)::(nat_lit 137,yK)::(nat_lit 138,yC P)::(nat_lit 139,af)::(nat_lit 140,af)::(nat_lit 141,xY)::(nat_lit 142,zl)::(nat_lit 143,yE)::(nat_lit 144,af)::(nat_lit 145,AW)::(nat_lit 146,zP)::r
noncomputable def XX(r:List (Addr×Obj)):List (Addr×Obj):=(nat_lit 147,af)::(nat_lit 148,yh)::(nat_lit 149,AX)::(nat_lit 150,zr)::(nat_lit 151,Ac)::(nat_lit 152,AI)::(nat_lit 153,z0)::(nat_lit 154,Aj)::(nat_lit 155,yF)::(nat_lit 157,af)::(nat_lit 158,xT P)::(nat_lit 159,af)::r
noncomputable def aa5(r:List (Addr×Obj)):List (Addr×Obj):=(nat_lit 161,zV)::(nat_lit 162,af)::(nat_lit 164,Au)::(nat_lit 165,zp)::(nat_lit 166,af)::(nat_lit 169,yV)::(nat_lit 170,xX)::(nat_lit 171,af)::(nat_lit 174,AK)::(nat_lit 175,zR)::(nat_lit 176,af)::(nat_lit 178,zF)::r
noncomputable def ZZ(r:List (Addr×Obj)):List (Addr×Obj):=(nat_lit 179,af)::(nat_lit 181,xS)::(nat_lit 182,yA)::(nat_lit 183,af)::(nat_lit 186,zj)::(nat_lit 187,AV)::(nat_lit 188,af)::(nat_lit 191,Ag)::(nat_lit 192,Az)::(nat_lit 193,af)::(nat_lit 195,zy)::(nat_lit 196,af)::r
noncomputable def Zd(r:List (Addr×Obj)):List (Addr×Obj):=(nat_lit 198,AE)::(nat_lit 199,xH)::(nat_lit 200,af)::(nat_lit 202,zL)::(nat_lit 203,af)::(nat_lit 205,yb)::(nat_lit 206,yq)::(nat_lit 207,af)::(nat_lit 210,xR)::(nat_lit 211,z4)::(nat_lit 219,af)::(nat_lit 221,zh)::r
noncomputable def U6(r:List (Addr×Obj)):List (Addr×Obj):=(nat_lit 222,af)::(nat_lit 224,AO)::(nat_lit 225,yg)::(nat_lit 226,af)::(nat_lit 228,yB)::(nat_lit 229,af)::(nat_lit 231,yR)::(nat_lit 232,yo)::(nat_lit 233,af)::(nat_lit 235,zW)::(nat_lit 236,af)::(nat_lit 238,xM)::r
noncomputable def Wa(r:List (Addr×Obj)):List (Addr×Obj):=(nat_lit 239,Ay)::(nat_lit 240,af)::(nat_lit 242,zU)::(nat_lit 243,af)::(nat_lit 245,yt)::(nat_lit 246,zk)::(nat_lit 247,af)::(nat_lit 249,yT)::(nat_lit 250,af)::(nat_lit 252,xQ)::(nat_lit 253,xP)::(nat_lit 254,AF)::r
noncomputable def U5(r:List (Addr×Obj)):List (Addr×Obj):=(nat_lit 255,zb P)::(nat_lit 256,yQ)::(nat_lit 257,yI)::(nat_lit 258,zB)::(nat_lit 261,af)::(nat_lit 263,yz)::(nat_lit 264,af)::(nat_lit 266,ze)::(nat_lit 267,yf)::(nat_lit 268,af)::(nat_lit 270,qA)::(nat_lit 271,af)::r
noncomputable def UQ(r:List (Addr×Obj)):List (Addr×Obj):=(nat_lit 273,sf)::(nat_lit 274,pZ)::(nat_lit 275,af)::(nat_lit 278,qT)::(nat_lit 279,sS)::(nat_lit 280,af)::(nat_lit 282,tq)::(nat_lit 283,af)::(nat_lit 285,sm)::(nat_lit 286,sQ)::(nat_lit 287,af)::(nat_lit 289,q_)::r
noncomputable def Vv(r:List (Addr×Obj)):List (Addr×Obj):=(nat_lit 290,af)::(nat_lit 292,qc)::(nat_lit 293,sk)::(nat_lit 294,af)::(nat_lit 296,se)::(nat_lit 297,af)::(nat_lit 299,rW)::(nat_lit 300,qE)::(nat_lit 301,af)::(nat_lit 303,qF)::(nat_lit 304,af)::(nat_lit 306,rY)::r
noncomputable def WE(r:List (Addr×Obj)):List (Addr×Obj):=(nat_lit 307,rD)::(nat_lit 308,af)::(nat_lit 310,rT)::(nat_lit 311,af)::(nat_lit 313,qG)::(nat_lit 314,rN)::(nat_lit 315,qy)::(nat_lit 316,sO)::(nat_lit 317,rL)::(nat_lit 318,qj)::(nat_lit 319,sJ)::(nat_lit 320,sj)::r
noncomputable def VX(r:List (Addr×Obj)):List (Addr×Obj):=(nat_lit 321,rP)::(nat_lit 322,qL)::(nat_lit 323,qH)::(nat_lit 324,rV)::(nat_lit 325,af)::(nat_lit 327,qb)::(nat_lit 328,af)::(nat_lit 330,qZ)::(nat_lit 331,qK)::(nat_lit 332,af)::(nat_lit 334,pU)::(nat_lit 335,af)::r
noncomputable def UL(r:List (Addr×Obj)):List (Addr×Obj):=(nat_lit 337,tI)::(nat_lit 338,rR)::(nat_lit 339,af)::(nat_lit 341,pQ)::(nat_lit 342,af)::(nat_lit 344,qU)::(nat_lit 345,so)::(nat_lit 346,af)::(nat_lit 348,ql)::(nat_lit 349,af)::(nat_lit 351,qr)::(nat_lit 352,sI)::r
noncomputable def UR(r:List (Addr×Obj)):List (Addr×Obj):=(nat_lit 353,af)::(nat_lit 355,sM)::(nat_lit 356,af)::(nat_lit 358,rh)::(nat_lit 359,tE)::(nat_lit 360,af)::(nat_lit 363,sF)::(nat_lit 364,rX)::(nat_lit 365,af)::(nat_lit 367,r_)::(nat_lit 368,pY)::(nat_lit 370,qu)::r
noncomputable def Wl(r:List (Addr×Obj)):List (Addr×Obj):=(nat_lit 371,qC)::(nat_lit 372,af)::(nat_lit 374,rO)::(nat_lit 375,rE)::(nat_lit 377,sP)::(nat_lit 378,qS)::(nat_lit 379,qa P)::(nat_lit 380,qz)::(nat_lit 381,qP)::(nat_lit 382,rA)::(nat_lit 383,sW)::(nat_lit 384,qO)::r
noncomputable def V4(r:List (Addr×Obj)):List (Addr×Obj):=(nat_lit 385,qx)::(nat_lit 386,qk)::(nat_lit 387,qo)::(nat_lit 388,pV)::(nat_lit 389,qN)::(nat_lit 390,sL)::(nat_lit 391,af)::(nat_lit 393,tD)::(nat_lit 394,af)::(nat_lit 396,qB)::(nat_lit 397,sU)::(nat_lit 398,af)::r
noncomputable def VR(r:List (Addr×Obj)):List (Addr×Obj):=(nat_lit 400,pP)::(nat_lit 401,af)::(nat_lit 403,qv)::(nat_lit 404,qD)::(nat_lit 405,af)::(nat_lit 407,sC)::(nat_lit 408,af)::(nat_lit 410,sT)::(nat_lit 411,tG)::(nat_lit 412,af)::(nat_lit 414,qR)::(nat_lit 415,af)::r
noncomputable def Vx(r:List (Addr×Obj)):List (Addr×Obj):=(nat_lit 417,rZ)::(nat_lit 418,tj)::(nat_lit 419,af)::(nat_lit 421,qw)::(nat_lit 422,af)::(nat_lit 424,sD)::(nat_lit 425,tH)::(nat_lit 426,af)::(nat_lit 428,sZ)::(nat_lit 429,af)::(nat_lit 431,qI)::(nat_lit 432,sN)::r
noncomputable def VH(r:List (Addr×Obj)):List (Addr×Obj):=(nat_lit 433,af)::(nat_lit 435,p_)::(nat_lit 436,af)::(nat_lit 438,rj)::(nat_lit 439,rm)::(nat_lit 440,af)::(nat_lit 442,qh)::(nat_lit 443,af)::(nat_lit 445,rK)::(nat_lit 446,rS)::(nat_lit 447,af)::(nat_lit 450,qQ)::r
noncomputable def WR(r:List (Addr×Obj)):List (Addr×Obj):=(nat_lit 451,rF)::(nat_lit 452,af)::(nat_lit 454,pX)::(nat_lit 455,af)::(nat_lit 457,tF)::(nat_lit 458,pS)::(nat_lit 459,af)::(nat_lit 461,qm)::(nat_lit 462,af)::(nat_lit 464,rQ)::(nat_lit 465,pR)::r
noncomputable def abL(P:Params):List (Addr×Obj):=(XO P (aaA P (Y2 P (aaD P (Yn P (aa2 P (XX P (aa5 (ZZ (Zd (U6 (Wa (U5 P (UQ (Vv (WE (VX (UL (UR (Wl P (V4 (VR (Vx (VH (WR [])))))))))))))))))))))))))
noncomputable def ZhK(P:Params):Frag:=(nat_lit 2,PySem.W.boot_o_2 P)::(nat_lit 3,GC P)::(nat_lit 15,af)::(nat_lit 17,He)::(nat_lit 18,af)::(nat_lit 20,FJ)::(nat_lit 21,Ge)::(nat_lit 22,GQ)::(nat_lit 29,af)::(nat_lit 31,Hw)::(nat_lit 32,af)::(nat_lit 34,Hv)::(nat_lit 35,FR)::(nat_lit 36,af)::(nat_lit 37,Ib P)::(nat_lit 38,GR)::(nat_lit 39,Fz)::(nat_lit 42,dP)::(nat_lit 49,af)::(nat_lit 51,GW)::(nat_lit 52,af)::(nat_lit 54,Hm)::(nat_lit 55,Gf)::(nat_lit 56,af)::(nat_lit 57,HX P)::(nat_lit 58,Hd)::(nat_lit 61,dP)::(nat_lit 68,af)::(nat_lit 70,FU)::(nat_lit 71,af)::(nat_lit 73,G4)::(nat_lit 74,Ht)::(nat_lit 75,af)::(nat_lit 76,Hx P)::(nat_lit 77,G5)::(nat_lit 80,dP)::(nat_lit 87,af)::(nat_lit 89,HN)::(nat_lit 90,af)::(nat_lit 92,FX)::(nat_lit 93,G7)::(nat_lit 94,af)::(nat_lit 95,Ia P)::(nat_lit 96,FI)::(nat_lit 99,dP)::(nat_lit 106,af)::(nat_lit 108,zi)::(nat_lit 109,af)::(nat_lit 111,yJ)::(nat_lit 112,yZ)::(nat_lit 113,af)::(nat_lit 114,yx P)::(nat_lit 115,xI)::(nat_lit 118,dP)::(nat_lit 125,af)::(nat_lit 127,zq)::(nat_lit 128,af)::(nat_lit 130,xZ)::(nat_lit 131,Aa)::(nat_lit 132,af)::(nat_lit 133,zY P)::(nat_lit 134,AA)::(nat_lit 137,yK)::(nat_lit 138,yC P)::(nat_lit 139,af)::(nat_lit 140,af)::(nat_lit 141,xY)::(nat_lit 142,zl)::(nat_lit 143,yE)::(nat_lit 144,af)::(nat_lit 145,AW)::(nat_lit 146,zP)::(nat_lit 147,af)::(nat_lit 148,yh)::(nat_lit 149,AX)::(nat_lit 150,zr)::(nat_lit 151,Ac)::(nat_lit 152,AI)::(nat_lit 153,z0)::(nat_lit 154,Aj)::(nat_lit 155,yF)::(nat_lit 157,af)::(nat_lit 158,xT P)::(nat_lit 159,af)::(nat_lit 161,zV)::(nat_lit 162,af)::(nat_lit 164,Au)::(nat_lit 165,zp)::(nat_lit 166,af)::(nat_lit 169,yV)::(nat_lit 170,xX)::(nat_lit 171,af)::(nat_lit 174,AK)::(nat_lit 175,zR)::(nat_lit 176,af)::(nat_lit 178,zF)::(nat_lit 179,af)::(nat_lit 181,xS)::(nat_lit 182,yA)::(nat_lit 183,af)::(nat_lit 186,zj)::(nat_lit 187,AV)::(nat_lit 188,af)::(nat_lit 191,Ag)::(nat_lit 192,Az)::(nat_lit 193,af)::(nat_lit 195,zy)::(nat_lit 196,af)::(nat_lit 198,AE)::(nat_lit 199,xH)::(nat_lit 200,af)::(nat_lit 202,zL)::(nat_lit 203,af)::(nat_lit 205,yb)::(nat_lit 206,yq)::(nat_lit 207,af)::(nat_lit 210,xR)::(nat_lit 211,z4)::(nat_lit 219,af)::(nat_lit 221,zh)::(nat_lit 222,af)::(nat_lit 224,AO)::(nat_lit 225,yg)::(nat_lit 226,af)::(nat_lit 228,yB)::(nat_lit 229,af)::(nat_lit 231,yR)::(nat_lit 232,yo)::(nat_lit 233,af)::(nat_lit 235,zW)::(nat_lit 236,af)::(nat_lit 238,xM)::(nat_lit 239,Ay)::(nat_lit 240,af)::(nat_lit 242,zU)::(nat_lit 243,af)::(nat_lit 245,yt)::(nat_lit 246,zk)::(nat_lit 247,af)::(nat_lit 249,yT)::(nat_lit 250,af)::(nat_lit 252,xQ)::(nat_lit 253,xP)::(nat_lit 254,AF)::(nat_lit 255,zb P)::(nat_lit 256,yQ)::(nat_lit 257,yI)::(nat_lit 258,zB)::(nat_lit 261,af)::(nat_lit 263,yz)::(nat_lit 264,af)::(nat_lit 266,ze)::(nat_lit 267,yf)::(nat_lit 268,af)::(nat_lit 270,qA)::(nat_lit 271,af)::(nat_lit 273,sf)::(nat_lit 274,pZ)::(nat_lit 275,af)::(nat_lit 278,qT)::(nat_lit 279,sS)::(nat_lit 280,af)::(nat_lit 282,tq)::(nat_lit 283,af)::(nat_lit 285,sm)::(nat_lit 286,sQ)::(nat_lit 287,af)::(nat_lit 289,q_)::(nat_lit 290,af)::(nat_lit 292,qc)::(nat_lit 293,sk)::(nat_lit 294,af)::(nat_lit 296,se)::(nat_lit 297,af)::(nat_lit 299,rW)::(nat_lit 300,qE)::(nat_lit 301,af)::(nat_lit 303,qF)::(nat_lit 304,af)::(nat_lit 306,rY)::(nat_lit 307,rD)::(nat_lit 308,af)::(nat_lit 310,rT)::(nat_lit 311,af)::(nat_lit 313,qG)::(nat_lit 314,rN)::(nat_lit 315,qy)::(nat_lit 316,sO)::(nat_lit 317,rL)::(nat_lit 318,qj)::(nat_lit 319,sJ)::(nat_lit 320,sj)::(nat_lit 321,rP)::(nat_lit 322,qL)::(nat_lit 323,qH)::(nat_lit 324,rV)::(nat_lit 325,af)::(nat_lit 327,qb)::(nat_lit 328,af)::(nat_lit 330,qZ)::(nat_lit 331,qK)::(nat_lit 332,af)::(nat_lit 334,pU)::(nat_lit 335,af)::(nat_lit 337,tI)::(nat_lit 338,rR)::(nat_lit 339,af)::(nat_lit 341,pQ)::(nat_lit 342,af)::(nat_lit 344,qU)::(nat_lit 345,so)::(nat_lit 346,af)::(nat_lit 348,ql)::(nat_lit 349,af)::(nat_lit 351,qr)::(nat_lit 352,sI)::(nat_lit 353,af)::(nat_lit 355,sM)::(nat_lit 356,af)::(nat_lit 358,rh)::(nat_lit 359,tE)::(nat_lit 360,af)::(nat_lit 363,sF)::(nat_lit 364,rX)::(nat_lit 365,af)::(nat_lit 367,r_)::(nat_lit 368,pY)::(nat_lit 370,qu)::(nat_lit 371,qC)::(nat_lit 372,af)::(nat_lit 374,rO)::(nat_lit 375,rE)::(nat_lit 377,sP)::(nat_lit 378,qS)::(nat_lit 379,qa P)::(nat_lit 380,qz)::(nat_lit 381,qP)::(nat_lit 382,rA)::(nat_lit 383,sW)::(nat_lit 384,qO)::(nat_lit 385,qx)::(nat_lit 386,qk)::(nat_lit 387,qo)::(nat_lit 388,pV)::(nat_lit 389,qN)::(nat_lit 390,sL)::(nat_lit 391,af)::(nat_lit 393,tD)::(nat_lit 394,af)::(nat_lit 396,qB)::(nat_lit 397,sU)::(nat_lit 398,af)::(nat_lit 400,pP)::(nat_lit 401,af)::(nat_lit 403,qv)::(nat_lit 404,qD)::(nat_lit 405,af)::(nat_lit 407,sC)::(nat_lit 408,af)::(nat_lit 410,sT)::(nat_lit 411,tG)::(nat_lit 412,af)::(nat_lit 414,qR)::(nat_lit 415,af)::(nat_lit 417,rZ)::(nat_lit 418,tj)::(nat_lit 419,af)::(nat_lit 421,qw)::(nat_lit 422,af)::(nat_lit 424,sD)::(nat_lit 425,tH)::(nat_lit 426,af)::(nat_lit 428,sZ)::(nat_lit 429,af)::(nat_lit 431,qI)::(nat_lit 432,sN)::(nat_lit 433,af)::(nat_lit 435,p_)::(nat_lit 436,af)::(nat_lit 438,rj)::(nat_lit 439,rm)::(nat_lit 440,af)::(nat_lit 442,qh)::(nat_lit 443,af)::(nat_lit 445,rK)::(nat_lit 446,rS)::(nat_lit 447,af)::(nat_lit 450,qQ)::(nat_lit 451,rF)::(nat_lit 452,af)::(nat_lit 454,pX)::(nat_lit 455,af)::(nat_lit 457,tF)::(nat_lit 458,pS)::(nat_lit 459,af)::(nat_lit 461,qm)::(nat_lit 462,af)::(nat_lit 464,rQ)::(nat_lit 465,pR)::[]
noncomputable def ZhA:List Addr:=[nat_lit 2,nat_lit 3,nat_lit 15,nat_lit 17,nat_lit 18,nat_lit 20,nat_lit 21,nat_lit 22,nat_lit 29,nat_lit 31,nat_lit 32,nat_lit 34,nat_lit 35,nat_lit 36,nat_lit 37,nat_lit 38,nat_lit 39,nat_lit 42,nat_lit 49,nat_lit 51,nat_lit 52,nat_lit 54,nat_lit 55,nat_lit 56,nat_lit 57,nat_lit 58,nat_lit 61,nat_lit 68,nat_lit 70,nat_lit 71,nat_lit 73,nat_lit 74,nat_lit 75,nat_lit 76,nat_lit 77,nat_lit 80,nat_lit 87,nat_lit 89,nat_lit 90,nat_lit 92,nat_lit 93,nat_lit 94,nat_lit 95,nat_lit 96,nat_lit 99,nat_lit 106,nat_lit 108,nat_lit 109,nat_lit 111,nat_lit 112,nat_lit 113,nat_lit 114,nat_lit 115,nat_lit 118,nat_lit 125,nat_lit 127,nat_lit 128,nat_lit 130,nat_lit 131,nat_lit 132,nat_lit 133,nat_lit 134,nat_lit 137,nat_lit 138,nat_lit 139,nat_lit 140,nat_lit 141,nat_lit 142,nat_lit 143,nat_lit 144,nat_lit 145,nat_lit 146,nat_lit 147,nat_lit 148,nat_lit 149,nat_lit 150,nat_lit 151,nat_lit 152,nat_lit 153,nat_lit 154,nat_lit 155,nat_lit 157,nat_lit 158,nat_lit 159,nat_lit 161,nat_lit 162,nat_lit 164,nat_lit 165,nat_lit 166,nat_lit 169,nat_lit 170,nat_lit 171,nat_lit 174,nat_lit 175,nat_lit 176,nat_lit 178,nat_lit 179,nat_lit 181,nat_lit 182,nat_lit 183,nat_lit 186,nat_lit 187,nat_lit 188,nat_lit 191,nat_lit 192,nat_lit 193,nat_lit 195,nat_lit 196,nat_lit 198,nat_lit 199,nat_lit 200,nat_lit 202,nat_lit 203,nat_lit 205,nat_lit 206,nat_lit 207,nat_lit 210,nat_lit 211,nat_lit 219,nat_lit 221,nat_lit 222,nat_lit 224,nat_lit 225,nat_lit 226,nat_lit 228,nat_lit 229,nat_lit 231,nat_lit 232,nat_lit 233,nat_lit 235,nat_lit 236,nat_lit 238,nat_lit 239,nat_lit 240,nat_lit 242,nat_lit 243,nat_lit 245,nat_lit 246,nat_lit 247,nat_lit 249,nat_lit 250,nat_lit 252,nat_lit 253,nat_lit 254,nat_lit 255,nat_lit 256,nat_lit 257,nat_lit 258,nat_lit 261,nat_lit 263,nat_lit 264,nat_lit 266,nat_lit 267,nat_lit 268,nat_lit 270,nat_lit 271,nat_lit 273,nat_lit 274,nat_lit 275,nat_lit 278,nat_lit 279,nat_lit 280,nat_lit 282,nat_lit 283,nat_lit 285,nat_lit 286,nat_lit 287,nat_lit 289,nat_lit 290,nat_lit 292,nat_lit 293,nat_lit 294,nat_lit 296,nat_lit 297,nat_lit 299,nat_lit 300,nat_lit 301,nat_lit 303,nat_lit 304,nat_lit 306,nat_lit 307,nat_lit 308,nat_lit 310,nat_lit 311,nat_lit 313,nat_lit 314,nat_lit 315,nat_lit 316,nat_lit 317,nat_lit 318,nat_lit 319,nat_lit 320,nat_lit 321,nat_lit 322,nat_lit 323,nat_lit 324,nat_lit 325,nat_lit 327,nat_lit 328,nat_lit 330,nat_lit 331,nat_lit 332,nat_lit 334,nat_lit 335,nat_lit 337,nat_lit 338,nat_lit 339,nat_lit 341,nat_lit 342,nat_lit 344,nat_lit 345,nat_lit 346,nat_lit 348,nat_lit 349,nat_lit 351,nat_lit 352,nat_lit 353,nat_lit 355,nat_lit 356,nat_lit 358,nat_lit 359,nat_lit 360,nat_lit 363,nat_lit 364,nat_lit 365,nat_lit 367,nat_lit 368,nat_lit 370,nat_lit 371,nat_lit 372,nat_lit 374,nat_lit 375,nat_lit 377,nat_lit 378,nat_lit 379,nat_lit 380,nat_lit 381,nat_lit 382,nat_lit 383,nat_lit 384,nat_lit 385,nat_lit 386,nat_lit 387,nat_lit 388,nat_lit 389,nat_lit 390,nat_lit 391,nat_lit 393,nat_lit 394,nat_lit 396,nat_lit 397,nat_lit 398,nat_lit 400,nat_lit 401,nat_lit 403,nat_lit 404,nat_lit 405,nat_lit 407,nat_lit 408,nat_lit 410,nat_lit 411,nat_lit 412,nat_lit 414,nat_lit 415,nat_lit 417,nat_lit 418,nat_lit 419,nat_lit 421,nat_lit 422,nat_lit 424,nat_lit 425,nat_lit 426,nat_lit 428,nat_lit 429,nat_lit 431,nat_lit 432,nat_lit 433,nat_lit 435,nat_lit 436,nat_lit 438,nat_lit 439,nat_lit 440,nat_lit 442,nat_lit 443,nat_lit 445,nat_lit 446,nat_lit 447,nat_lit 450,nat_lit 451,nat_lit 452,nat_lit 454,nat_lit 455,nat_lit 457,nat_lit 458,nat_lit 459,nat_lit 461,nat_lit 462,nat_lit 464,nat_lit 465]
noncomputable def hX(s:Shared):Bool:=xlAt hq [] s&&recOk [] s
noncomputable def Vr:List Addr:=[nat_lit 366,nat_lit 373]
noncomputable abbrev hH:Hook:=kmHook ZhK ZhA (λ_=>by kernel_rfl) Vr
noncomputable def Zqs:HD.kK ((Bool×Nat×Option Value)):=λw=>(λos=>((boot_heap w.params).isNs mainGlobals&&(Array.mk []:Array GenState).size==0,(boot_heap w.params).objs.size,(boot_heap w.params).nsMap mainGlobals "__annotations__"),λos=>(true,(nat_lit 11),(some (.ref 6))))
theorem We:HD.sz (nat_lit 11) (some (.ref 6))=Zqs:=by kernel_rfl
name_quick Tp for Zqs by We
theorem Zis(w:World):(Fast.Tp w).1=(Fast.Tp w).2:=by kernel_rfl
theorem Zhs:HD.Ok (HD.sz (nat_lit 11) (some (.ref 6))):=HD.jf Fast.Tp_eq Zis
noncomputable def YM:HD.kK (Bool):=λw=>(λos=>(staticsOk (importedModules pw.main.body) (boot_heap w.params) (Of w.params)&&namesBound pw (Of w.params)&&gensDone (SY w os)&&laidKept (boot_heap w.params) (Of w.params)),λos=>true)
theorem QV:HD.la pw Of Vy VI=YM:=by kernel_rfl
name_quick Mw for YM by QV
theorem acK(w:World):(Fast.Mw w).1=(Fast.Mw w).2:=by kernel_rfl
theorem abT:HD.Ok (HD.la pw Of Vy VI):=HD.jf Fast.Mw_eq acK
noncomputable def Y5(w:World):=((λos:OsState=>openSeen hq hl (importedModules pw.main.body) hX true (SY w os)),(λ_:OsState=>openGood hq hl))
theorem Qb:HD.lb pw hq hl hX Of Vy VI=Y5:=by kernel_rfl
name_quick NS for Y5 by Qb
theorem abX(w:World):(Fast.NS w).1=(Fast.NS w).2:=by kernel_rfl
theorem abt:HD.Ok (HD.lb pw hq hl hX Of Vy VI):=HD.jf Fast.NS_eq abX
noncomputable def YZ:HD.kK ((List (Option Obj)×List (Option Obj))):=λw=>(λos=>(ZhA.map (SY w os).heap.get?,Vr.map (SY w os).heap.get?),λos=>((abL w.params).map λp=>some p.2,Vr.map λ_=>some (tabObj #[])))
theorem OE:HD.lc hH Of Vy VI=YZ:=by kernel_rfl
name_quick NF for YZ by OE
theorem abw(w:World):(Fast.NF w).1=(Fast.NF w).2:=by kernel_rfl
theorem abV:HD.Ok (HD.lc hH Of Vy VI):=HD.jf Fast.NF_eq abw
theorem hleft:LeftO pw hq hl hX hH.obs hH.val 7488:=HD.left (by kernel_rfl) (by decide) (λs=>by kernel_rfl) Zhs aaG (by decide+kernel) abT abt abV
end K62
end
open PySem PySem.W PyProof.Rows
set_option maxRecDepth 100000 in
set_option maxHeartbeats 0 in
theorem PySem.Challenge.cw_keeper_k62_sums_and_products_holds : PySem.Challenge.rw_keeper_k62_sums_and_products.Holds := by
  w_on; o_law
  refine PySem.W.holds_open (q := K62.hq) (loose := K62.hl) (Xt := K62.hX) (XP := PySem.W.XL K62.hq []) (Yf := PySem.W.Hook.obs K62.hH) (Ya := PySem.W.Hook.val K62.hH) (YP := PySem.W.Hook.says K62.hH) (N := 7488) K62.hleft (PySem.W.Hook.of _) (PySem.W.Hook.keeps _) (fun s e => PySem.W.xl_of s (Bool.and_eq_true_iff.mp e).1) PySem.W.XL.keeps (by rfl) (by rfl) (by rfl) (fun s e => PySem.W.recFacts_of (Bool.and_eq_true_iff.mp e).2) (by rfl) (by assumption) (by decide +kernel) ⟨rfl, rfl, rfl, rfl, rfl, by decide +kernel⟩ ?hw ?hc
  case hw => w_witness2
  delta K62.hH
  k_fill
  refine' K62.walk (l := PySem.Challenge.rw_keeper_k62_sums_and_products) (c1 := ?qc1) (T1 := ?qT1) (c2 := ?qc2) (T2 := ?qT2) rfl rfl (fun w h Y => PySem.W.km_in_of Y) ?h2_1 ?h3_1 ?h4_1 ?h2_2 ?h3_2 ?h4_2 ?hne12 ?F
  case F =>
    intro w mg fa h KX G hmg
    have h1_1 : PySem.W.tabIn (L2.KOf KX) "raised" = some (?qc1, ?qT1) := by
      dsimp only [L2.KOf]
      exact rfl
    have h2_1 : PySem.W.codeHdIn (L2.KOf KX) ?qc1 ?qT1 = true := by
      dsimp only [L2.KOf]
      kernel_rfl
    have h1_2 : PySem.W.tabIn (L2.KOf KX) "put_in" = some (?qc2, ?qT2) := by
      dsimp only [L2.KOf]
      exact rfl
    have h2_2 : PySem.W.codeHdIn (L2.KOf KX) ?qc2 ?qT2 = true := by
      dsimp only [L2.KOf]
      kernel_rfl
    have T : ∃ t, K62.Txt (L2.KOf KX) mg t := by
      dsimp only [L2.KOf]
      refine' K62.txt_mk KX G ?a0 ?a1 ?a2 ?a3 ?a4 ?a5 ?a6 ?a7 ?a8 ?a9 ?a10 ?a11 ?a12 ?a13 ?a14 ?a15 ?a16 ?a17 ?a18 ?a19 ?a20 ?a21 ?a22 ?a23 ?a24 ?a25 ?a26 ?a27 ?a28 ?a29 ?a30 ?a31 ?a32 ?a33 ?a34 ?a35 ?z_all ?z_bool ?z_enumerate ?z_int ?z_isinstance ?z_len ?z_list ?z_max ?z_range ?z_reversed ?z_str ?z_tuple ?z_zip ?g_MOST_KNOTS ?g_MOST_DEEP ?g_MOST_VARIABLE ?g_MOST_LETTERS ?g_LETTERS ?g_KIND_WORDS ?lk_KIND_WORDS ?vs_KIND_WORDS ?g_KIDS_DUE ?lk_KIDS_DUE ?sy_KIDS_DUE ?ks_KIDS_DUE ?rf_KIDS_DUE ?u0_KIDS_DUE ?v0_KIDS_DUE ?u1_KIDS_DUE ?v1_KIDS_DUE ?u2_KIDS_DUE ?v2_KIDS_DUE ?u3_KIDS_DUE ?v3_KIDS_DUE ?u4_KIDS_DUE ?v4_KIDS_DUE ?u5_KIDS_DUE ?v5_KIDS_DUE ?u6_KIDS_DUE ?v6_KIDS_DUE ?u7_KIDS_DUE ?v7_KIDS_DUE ?u8_KIDS_DUE ?v8_KIDS_DUE ?u9_KIDS_DUE ?v9_KIDS_DUE ?u10_KIDS_DUE ?v10_KIDS_DUE ?u11_KIDS_DUE ?v11_KIDS_DUE ?u12_KIDS_DUE ?v12_KIDS_DUE ?u13_KIDS_DUE ?v13_KIDS_DUE ?u14_KIDS_DUE ?v14_KIDS_DUE ?u15_KIDS_DUE ?v15_KIDS_DUE ?u16_KIDS_DUE ?v16_KIDS_DUE ?u17_KIDS_DUE ?v17_KIDS_DUE ?g_BINDER_OVER ?lk_BINDER_OVER ?sy_BINDER_OVER ?vs_BINDER_OVER ?g_FIGURES ?g_MOST_FIGURE ?g_TOLD ?lk_TOLD ?vs_TOLD ?u0_TOLD ?v0_TOLD ?u1_TOLD ?v1_TOLD ?u2_TOLD ?v2_TOLD ?u3_TOLD ?v3_TOLD ?u4_TOLD ?v4_TOLD ?u5_TOLD ?v5_TOLD ?u6_TOLD ?v6_TOLD ?u7_TOLD ?v7_TOLD ?u8_TOLD ?v8_TOLD ?g_RULES ?lk_RULES ?sy_RULES ?ks_RULES ?rf_RULES ?u0_RULES ?v0_RULES ?u0_0_RULES ?v0_0_RULES ?u1_RULES ?v1_RULES ?u1_0_RULES ?v1_0_RULES ?u1_1_RULES ?v1_1_RULES ?u2_RULES ?v2_RULES ?u2_0_RULES ?v2_0_RULES ?u3_RULES ?v3_RULES ?u3_0_RULES ?v3_0_RULES ?u4_RULES ?v4_RULES ?u4_0_RULES ?v4_0_RULES ?g_Great ?g_NoPlace ?g_NoStep ?g_Dry ?g_NoText ?g_Form ?pg_Form ?hd_Form ?po_Form ?sa_Form ?mk_Form ?kp_Form ?na_Form_word ?na_Form_name ?na_Form_due ?na_Form_parts ?a_Form_init ?l_Form_init ?c_Form_init ?k_Form_init ?n_Form_init ?a_Form_binds_here ?l_Form_binds_here ?c_Form_binds_here ?k_Form_binds_here ?n_Form_binds_here ?a_Form_is_full ?l_Form_is_full ?c_Form_is_full ?k_Form_is_full ?n_Form_is_full ?a_Form_take ?l_Form_take ?c_Form_take ?k_Form_take ?n_Form_take ?a_Form_closed ?l_Form_closed ?c_Form_closed ?k_Form_closed ?n_Form_closed ?x_e0 ?x_e1 ?x_e2 ?x_e3 ?x_e4
      (case a0 => apply L3.dfi; iterate 4 k_is)
      (case a1 => apply L3.dfi; iterate 4 k_is)
      (case a2 => apply L3.dfi; iterate 4 k_is)
      (case a3 => apply L3.dfi; iterate 4 k_is)
      (case a4 => apply L3.dfi; iterate 4 k_is)
      (case a5 => apply L3.dfi; iterate 4 k_is)
      (case a6 => apply L3.dfi; iterate 4 k_is)
      (case a7 => apply L3.dfi; iterate 4 k_is)
      (case a8 => apply L3.dfi; iterate 4 k_is)
      (case a9 => apply L3.dfi; iterate 4 k_is)
      (case a10 => apply L3.dfi; iterate 4 k_is)
      (case a11 => apply L3.dfi; iterate 4 k_is)
      (case a12 => apply L3.dfi; iterate 4 k_is)
      (case a13 => apply L3.dfi; iterate 4 k_is)
      (case a14 => apply L3.dfi; iterate 4 k_is)
      (case a15 => apply L3.dfi; iterate 4 k_is)
      (case a16 => apply L3.dfi; iterate 4 k_is)
      (case a17 => apply L3.dfi; iterate 4 k_is)
      (case a18 => apply L3.dfi; iterate 4 k_is)
      (case a19 => apply L3.dfi; iterate 4 k_is)
      (case a20 => apply L3.dfi; iterate 4 k_is)
      (case a21 => apply L3.dfi; iterate 4 k_is)
      (case a22 => apply L3.dfi; iterate 4 k_is)
      (case a23 => apply L3.dfi; iterate 4 k_is)
      (case a24 => apply L3.dfi; iterate 4 k_is)
      (case a25 => apply L3.dfi; iterate 4 k_is)
      (case a26 => apply L3.dfi; iterate 4 k_is)
      (case a27 => apply L3.dfi; iterate 4 k_is)
      (case a28 => apply L3.dfi; iterate 4 k_is)
      (case a29 => apply L3.dfi; iterate 4 k_is)
      (case a30 => apply L3.dfi; iterate 4 k_is)
      (case a31 => apply L3.dfi; iterate 4 k_is)
      (case a32 => apply L3.dfi; iterate 4 k_is)
      (case a33 => apply L3.dfi; iterate 4 k_is)
      (case a34 => apply L3.dfi; iterate 4 k_is)
      (case a35 => apply L3.dfi; iterate 4 k_is)
      (case z_all => k_is)
      (case z_bool => k_is)
      (case z_enumerate => k_is)
      (case z_int => k_is)
      (case z_isinstance => k_is)
      (case z_len => k_is)
      (case z_list => k_is)
      (case z_max => k_is)
      (case z_range => k_is)
      (case z_reversed => k_is)
      (case z_str => k_is)
      (case z_tuple => k_is)
      (case z_zip => k_is)
      (case g_MOST_KNOTS => k_is)
      (case g_MOST_DEEP => k_is)
      (case g_MOST_VARIABLE => k_is)
      (case g_MOST_LETTERS => k_is)
      (case g_LETTERS => k_is)
      (case g_KIND_WORDS => k_is)
      (case lk_KIND_WORDS => k_is)
      (case vs_KIND_WORDS => decide +kernel)
      (case g_KIDS_DUE => k_is)
      (case lk_KIDS_DUE => k_is)
      (case sy_KIDS_DUE => decide +kernel)
      (case ks_KIDS_DUE => kernel_rfl)
      (case rf_KIDS_DUE => (dsimp only [HD.e]; rfl))
      (case u0_KIDS_DUE => k_is)
      (case v0_KIDS_DUE => decide +kernel)
      (case u1_KIDS_DUE => k_is)
      (case v1_KIDS_DUE => decide +kernel)
      (case u2_KIDS_DUE => k_is)
      (case v2_KIDS_DUE => decide +kernel)
      (case u3_KIDS_DUE => k_is)
      (case v3_KIDS_DUE => decide +kernel)
      (case u4_KIDS_DUE => k_is)
      (case v4_KIDS_DUE => decide +kernel)
      (case u5_KIDS_DUE => k_is)
      (case v5_KIDS_DUE => decide +kernel)
      (case u6_KIDS_DUE => k_is)
      (case v6_KIDS_DUE => decide +kernel)
      (case u7_KIDS_DUE => k_is)
      (case v7_KIDS_DUE => decide +kernel)
      (case u8_KIDS_DUE => k_is)
      (case v8_KIDS_DUE => decide +kernel)
      (case u9_KIDS_DUE => k_is)
      (case v9_KIDS_DUE => decide +kernel)
      (case u10_KIDS_DUE => k_is)
      (case v10_KIDS_DUE => decide +kernel)
      (case u11_KIDS_DUE => k_is)
      (case v11_KIDS_DUE => decide +kernel)
      (case u12_KIDS_DUE => k_is)
      (case v12_KIDS_DUE => decide +kernel)
      (case u13_KIDS_DUE => k_is)
      (case v13_KIDS_DUE => decide +kernel)
      (case u14_KIDS_DUE => k_is)
      (case v14_KIDS_DUE => decide +kernel)
      (case u15_KIDS_DUE => k_is)
      (case v15_KIDS_DUE => decide +kernel)
      (case u16_KIDS_DUE => k_is)
      (case v16_KIDS_DUE => decide +kernel)
      (case u17_KIDS_DUE => k_is)
      (case v17_KIDS_DUE => decide +kernel)
      (case g_BINDER_OVER => k_is)
      (case lk_BINDER_OVER => k_is)
      (case sy_BINDER_OVER => decide +kernel)
      (case vs_BINDER_OVER => kernel_rfl)
      (case g_FIGURES => k_is)
      (case g_MOST_FIGURE => k_is)
      (case g_TOLD => k_is)
      (case lk_TOLD => k_is)
      (case vs_TOLD => rfl)
      (case u0_TOLD => k_is)
      (case v0_TOLD => rfl)
      (case u1_TOLD => k_is)
      (case v1_TOLD => rfl)
      (case u2_TOLD => k_is)
      (case v2_TOLD => rfl)
      (case u3_TOLD => k_is)
      (case v3_TOLD => rfl)
      (case u4_TOLD => k_is)
      (case v4_TOLD => rfl)
      (case u5_TOLD => k_is)
      (case v5_TOLD => rfl)
      (case u6_TOLD => k_is)
      (case v6_TOLD => rfl)
      (case u7_TOLD => k_is)
      (case v7_TOLD => rfl)
      (case u8_TOLD => k_is)
      (case v8_TOLD => rfl)
      (case g_RULES => k_is)
      (case lk_RULES => k_is)
      (case sy_RULES => decide +kernel)
      (case ks_RULES => kernel_rfl)
      (case rf_RULES => (dsimp only [HD.e]; rfl))
      (case u0_RULES => k_is)
      (case v0_RULES => rfl)
      (case u0_0_RULES => k_is)
      (case v0_0_RULES => decide +kernel)
      (case u1_RULES => k_is)
      (case v1_RULES => rfl)
      (case u1_0_RULES => k_is)
      (case v1_0_RULES => decide +kernel)
      (case u1_1_RULES => k_is)
      (case v1_1_RULES => decide +kernel)
      (case u2_RULES => k_is)
      (case v2_RULES => rfl)
      (case u2_0_RULES => k_is)
      (case v2_0_RULES => decide +kernel)
      (case u3_RULES => k_is)
      (case v3_RULES => rfl)
      (case u3_0_RULES => k_is)
      (case v3_0_RULES => decide +kernel)
      (case u4_RULES => k_is)
      (case v4_RULES => rfl)
      (case u4_0_RULES => k_is)
      (case v4_0_RULES => decide +kernel)
      (case g_Great => k_is)
      (case g_NoPlace => k_is)
      (case g_NoStep => k_is)
      (case g_Dry => k_is)
      (case g_NoText => k_is)
      (case g_Form => k_is)
      (case pg_Form => k_is)
      (case hd_Form => k_is)
      (case po_Form => k_is)
      (case sa_Form => k_is)
      (case mk_Form => k_is)
      (case kp_Form => k_is)
      (case na_Form_word => k_is)
      (case na_Form_name => k_is)
      (case na_Form_due => k_is)
      (case na_Form_parts => k_is)
      (case a_Form_init => k_is)
      (case l_Form_init => k_is)
      (case c_Form_init => k_is)
      (case k_Form_init => k_is)
      (case n_Form_init => k_is)
      (case a_Form_binds_here => k_is)
      (case l_Form_binds_here => k_is)
      (case c_Form_binds_here => k_is)
      (case k_Form_binds_here => k_is)
      (case n_Form_binds_here => k_is)
      (case a_Form_is_full => k_is)
      (case l_Form_is_full => k_is)
      (case c_Form_is_full => k_is)
      (case k_Form_is_full => k_is)
      (case n_Form_is_full => k_is)
      (case a_Form_take => k_is)
      (case l_Form_take => k_is)
      (case c_Form_take => k_is)
      (case k_Form_take => k_is)
      (case n_Form_take => k_is)
      (case a_Form_closed => k_is)
      (case l_Form_closed => k_is)
      (case c_Form_closed => k_is)
      (case k_Form_closed => k_is)
      (case n_Form_closed => k_is)
      (case x_e0 => kernel_rfl)
      (case x_e1 => kernel_rfl)
      (case x_e2 => kernel_rfl)
      (case x_e3 => kernel_rfl)
      (case x_e4 => kernel_rfl)
    obtain ⟨t, T⟩ := T
    exact K62.fin KX G h1_1 h2_1 h1_2 h2_2 T hmg
  case h2_1 => intro w; kernel_rfl
  case h3_1 => intro w; kernel_rfl
  case h4_1 => exact fun w h Y => PySem.W.km_tabs_of Y _ (by decide)
  case h2_2 => intro w; kernel_rfl
  case h3_2 => intro w; kernel_rfl
  case h4_2 => exact fun w h Y => PySem.W.km_tabs_of Y _ (by decide)
  case hne12 => decide
