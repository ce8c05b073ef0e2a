import PyProof.Rows.All
import Wide.All
import OpenK.AllK
import Wide.FinOn
import Lean
import PyProof.EqAt
import PyProof.EqKinds
import PyProof.TupleCall
import PyProof.ZipIter
import PyProof.Draws
import PyProof.TupleIter
import PySem.Value
import PyProof.NeKinds
import PyProof.ExcClass2
import PyProof.StationsW
import OpenK.KOwn
import KE.KIsAll
import PyProof.RulesAs
import PyProof.NsDelKeeps
import PyProof.PassesOwn
import PyProof.ExcArgsOwn
import PyProof.IsiH_list
import PyProof.EnumMake
import PyProof.EnumFor
import PyProof.WalksEnum
import PyProof.Rows.EnumRows
import PyProof.SumWalk
import PyProof.StrCalls
import PyProof.Rows.StrJoin2
import PyProof.WalkInts
import KE.KDictOf
import KE.KEqDict
import KE.KNest
import KE.KNestM
import PyProof.EqLayable
import PyProof.P3Eq
import PyProof.MeetsIn
import PyProof.StrCalls6
import PyProof.StrLaws
import PyProof.StrLawsIn
import PyProof.StrLawsChain
import PyProof.MeetsStr2
import PyProof.StrOps2
import PyProof.CallStr
import KE.KIntText
import KE.KRevIter
import PyProof.Rows.StrInSeq3
import PyProof.Rows.SeqMore2
import PySem.Challenge.RW_keeper_k17_whole_putting_in
set_option Elab.async false
set_option linter.all false
set_option maxRecDepth 100000
set_option bootstrap.genMatcherCode false
set_option genSizeOf false
set_option genSizeOfSpec false
set_option maxHeartbeats 8000000
open PySem renaming wpAny_bind->zQ00,wpAny_pure->zQ02,wpAny_field->cQ,wpAny_call_entry->fF,wpAny_holding->eh,wpAny_newObj_type->gL,wpAny_mono->d9,wpAny_setField_rec->m7,wpAny_Call_Name_kw->nK,wpAny_seqItems->jL
open PySem.Heap renaming get?_push_of_some->zQ01,lt_size->zQ05,get?_push_size->zQ06,get?_update_other->fH,size_push->zQ21,get?_update_self->kX
open List renaming getElem?_eq_getElem->zQ03,mem_cons_of_mem->c_,size_toArray->cG,mem_cons_self->cY,length_map->cT,mem_append_right->fJ,length_append->fK,getElem?_map->fU,mem_append_left->jy,map_cons->eO,length_cons->gH,lookup_cons->jc,length_range->mw,getElem?_append_left->uT,getElem_of_mem->qQ
open Nat renaming le_refl->zQ04,zero_le->zQ11,lt_of_lt_of_le->dQ,le_trans->cu,ne_of_lt->zQ18,not_lt_zero->kO
open Bool renaming and_eq_true->cw,false_ne_true->dR,false_eq_true->gK
noncomputable section
section
namespace L2
open PySem PySem.Spec PyProof.Rows
theorem eZ{n:Nat}(h:Nat.ble n 16777216=true):n<=sizeLine:=cu (Nat.le_of_ble_eq_true h) (by decide)
def HB(base:Heap)(A:Around):Prop:=A.handled=none\/∃a oe vs,A.handled=some (.ref a)/\base.get? a=some oe/\oe.data= .fields vs/\vs[2]?=some .none
def Og(base:Heap)(pn:List (Addr×Obj))(A:Around):Prop:=A.handled=none\/∃a oe vs,A.handled=some (.ref a)/\(base.get? a=some oe\/(a,oe)∈pn)/\oe.data= .fields vs/\vs[2]?=some .none
theorem HB.R9{base:Heap}{pn:List (Addr×Obj)}{A:Around}(h:HB base A):Og base pn A:=by
 rcases h with h|⟨a,oe,vs,b,c,d⟩;·exact .inl h
 ·exact .inr ⟨a,oe,vs,b, .inl c,d⟩
theorem sU:entryFor table "proto.unchain"=some Builtin.«proto.unchain»:=entryFor_of_tree (by kernel_rfl)
section
variable{prog:Program}{w:World}{A:Around}{E:Value->Shared->Prop}{s:Shared}{base:Heap}
theorem HB.mono{h h':Heap}(hb:HB h A)(e:∀a o,A.handled=some (.ref a)->h.get? a=some o->h'.get? a=some o):HB h' A:=by
 rcases hb with hb|⟨a,oe,vs,b,c,d⟩;·exact .inl hb
 ·exact .inr ⟨a,oe,vs,b,e a oe b c,d⟩
theorem tw{n a:Addr}{oe:Obj}{vs:Array Value}{Q:Value->Shared->Prop}(he:s.heap.get? a=some oe)(hd:oe.data= .fields vs)(h2:vs[2]?=some .none)(h:Q .none s):wpAny (model prog w) A (runValue (.builtin "proto.unchain" ⟨[.ref n, .ref a, .ref a, .bool false],[]⟩)) Q E s:=by refine wpAny_runValue (codeAny_builtin sU ?_);show wpAny _ _ (field (.ref a) 2>>=_) _ _ s;refine zQ00 (cQ he hd h2 ?_);rw[if_pos (show(Value.none==Value.none)=true by rfl)];exact zQ02 h
theorem d_{f:Type}{Q:f->Shared->Prop}(hb:HB s.heap A)(d:∀h' e,(∀b o,s.heap.get? b=some o->h'.get? b=some o)->(∃o,h'.get? e=some o/\o.cls= .type "StopIteration")->E (.ref e) {s with heap:=h'}):wpAny (model prog w) A (newExc (.type "StopIteration") []>>=λe=>(raiseNew e:Sem f)) Q E s:=by
 refine zQ00 ?_;simp only[newExc,newTuple];refine zQ00 (gL ?_ (by size_fits));refine zQ00 (m:=firstArgMember _ _) (wpAny_of_eq (a:=Value.none) (by first|rfl|(simp only[firstArgMember];rfl)) ?_);refine gL ?_ (by size_fits);simp only[raiseNew];refine zQ00 (wpAny_handled ?_);rcases hb with hb|⟨a,oe,vs,hb,g,h,i⟩;·rw[hb];refine zQ00 (zQ02 (wpAny_throw (d _ _ (λb o e=>zQ01 _ (zQ01 _ e)) ⟨_,zQ06 _ rfl,rfl⟩)))
 ·rw[hb];have c:=g;have lt:=zQ05 c;have ne:a≠(s.heap.push {cls:= .type "tuple",data:= .seq #[]}).objs.size:=by rw[zQ21];exact zQ18 (Nat.lt_succ_of_lt lt)
  dsimp only;rw[if_pos (by simpa using ne)];refine zQ00 (eh (tw (zQ01 _ (zQ01 _ c)) h i ?_));refine zQ00 ?_;show wpAny (model prog w) A (setField (.ref _) 2 (.ref a)) _ _ _;refine wpAny_setField (zQ06 _ rfl) rfl (by simp;lia) (wpAny_throw (d _ _ (λb o e=>?_) ⟨_,kX _ (zQ06 _ rfl) (Obj.isFreed_of_fields (Obj.data_mapFields rfl _)),Obj.cls_mapFields _ _⟩));rw[fH _ _ ?_];·exact zQ01 _ (zQ01 _ e)
  ·have :=zQ05 e;intro z;rw[<-z,zQ21]at this;exact Nat.not_succ_lt_self this
theorem jh{Q:Bool->Shared->Prop}{h':Heap}{e:Addr}(he:∃o,h'.get? e=some o/\o.cls= .type "StopIteration")(h:Q true {s with heap:=h'}):wpAny (model prog w) A (isInstance (.ref e) (.type "StopIteration")) Q E {s with heap:=h'}:=by obtain⟨o,ho,hc⟩:=he;exact wpAny_isInstance (T:="StopIteration") (b:=true) ⟨o,ho,hc⟩ isSubtype_stop h
theorem HB.upd{it:Addr}{f:Obj->Obj}(hb:HB s.heap A)(na:∀a,A.handled=some (.ref a)->a≠it):HB (s.heap.update it f) A:=hb.mono λa o b c=>(fH _ _ (Ne.symm (na a b))).trans c
theorem iB{it:Addr}{f:Obj->Obj}{h':Heap}(k:∀b o,(s.heap.update it f).get? b=some o->h'.get? b=some o):Heap.ExtBut it s.heap h':=λb o hb e=>k b o ((fH _ _ (Ne.symm hb)).trans e)
theorem gW{it l:Addr}{i:Nat}{items:Array Value}{Q:Option Value->Shared->Prop}(hb:HB s.heap A)(na:∀a,A.handled=some (.ref a)->a≠it)(b:s.heap.IsListIter it l i)(hl:s.heap.IsList l items)(d:items[i]?=none)(c:∀h',Heap.ExtBut it s.heap h'->Q none {s with heap:=h'}):wpAny (model prog w) A (pyNext (.ref it)) Q E s:=by obtain⟨o,ho,hc,hd⟩:=id b;obtain⟨ol,hol,_,nl,hdl⟩:=hl;unfold pyNext;refine zQ00 (wpAny_attempt (wpAny_callSpecial?_slot (name:=Str.ofString "__next__") b.typeIs slot_listiter_next (fF slot_listiter_next b.typeIs entry_listiter_next ?_ (args_listiter_next _))));show wpAny (model prog w) _ (field (.ref it) 0>>=_) _ _ s;refine zQ00 (cQ ho hd (x:= .ref l) rfl ?_);show wpAny (model prog w) _ (if(Value.ref l==Value.none)=true then _ else _) _ _ s;rw[if_neg (show¬(Value.ref l==Value.none)=true from dR)];show wpAny (model prog w) _ (field (.ref it) 1>>=_) _ _ s;refine zQ00 (cQ ho hd (x:= .int i 0) rfl ?_);show wpAny (model prog w) _ (seqItems? (.ref l)>>=_) _ _ s;refine zQ00 (jL hol hdl ?_);simp only[Int.toNat_natCast,d];refine zQ00 (wpAny_rule (zQ00 (wpAny_setField ho hd (by simp) ?_)));exact d_ (A:=A.in1) (hb.upd na) λh' e k he=>zQ00 (jh he (zQ02 (c h' (iB k))))
theorem next_tuple_end{it l:Addr}{i:Nat}{items:Array Value}{Q:Option Value->Shared->Prop}(hb:HB s.heap A)(na:∀a,A.handled=some (.ref a)->a≠it)(b:s.heap.IsTupleIter it l i)(hl:s.heap.IsTuple l items)(d:items[i]?=none)(c:∀h',Heap.ExtBut it s.heap h'->Q none {s with heap:=h'}):wpAny (model prog w) A (pyNext (.ref it)) Q E s:=by obtain⟨o,ho,hc,hd⟩:=id b;obtain⟨ol,hol,_,nl,hdl⟩:=hl;unfold pyNext;refine zQ00 (wpAny_attempt (wpAny_callSpecial?_slot (name:=Str.ofString "__next__") b.typeIs F.slot_tuple_iterator_next (fF F.slot_tuple_iterator_next b.typeIs F.entry_tuple_iterator_next ?_ (F.args_tuple_iterator_next_1 _))));show wpAny (model prog w) _ (field (.ref it) 0>>=_) _ _ s;refine zQ00 (cQ ho hd (x:= .ref l) rfl ?_);show wpAny (model prog w) _ (if(Value.ref l==Value.none)=true then _ else _) _ _ s;rw[if_neg (show¬(Value.ref l==Value.none)=true from dR)];show wpAny (model prog w) _ (field (.ref it) 1>>=_) _ _ s;refine zQ00 (cQ ho hd (x:= .int i 0) rfl ?_);show wpAny (model prog w) _ (seqItems? (.ref l)>>=_) _ _ s;refine zQ00 (jL hol hdl ?_);simp only[Int.toNat_natCast,d];refine zQ00 (wpAny_rule (zQ00 (wpAny_setField ho hd (by simp) ?_)));exact d_ (A:=A.in1) (hb.upd na) λh' e k he=>zQ00 (jh he (zQ02 (c h' (iB k))))
theorem mY{it:Addr}{x left step:Int}{Q:Option Value->Shared->Prop}(hb:HB s.heap A)(a:IsRangeIter s.heap it x left step)(hleft:left<=0)(d:∀h',Heap.ExtBut it s.heap h'->Q none {s with heap:=h'}):wpAny (model prog w) A (pyNext (.ref it)) Q E s:=by have hT:s.TypeIs (.ref it) "range_iterator":=⟨_,a,rfl⟩;unfold pyNext;refine zQ00 (wpAny_attempt (wpAny_callSpecial?_slot (name:=Str.ofString "__next__") hT F.slot_range_iterator_next (fF F.slot_range_iterator_next hT F.entry_range_iterator_next ?_ (F.args_range_iterator_next_1 _))));show wpAny (model prog w) _ (field (.ref it) 0>>=_) _ _ s;refine zQ00 (cQ a rfl (x:=rawInt x) rfl ?_);show wpAny (model prog w) _ (field (.ref it) 1>>=_) _ _ s;refine zQ00 (cQ a rfl (x:=rawInt left) rfl ?_);show wpAny (model prog w) _ (field (.ref it) 2>>=_) _ _ s;refine zQ00 (cQ a rfl (x:=rawInt step) rfl ?_);show wpAny (model prog w) _ (if left<=0 then _ else _) _ _ s;rw[if_pos hleft];refine zQ00 (wpAny_rule ?_);refine zQ00 ?_;exact d_ (A:=A.in1) hb λh' e k he=>zQ00 (jh he (zQ02 (d h' λb o _ c=>k b o c)))
theorem l_{it:Addr}{x:Str}{t:Tok}{i:Nat}{Q:Option Value->Shared->Prop}(hb:HB s.heap A)(na:∀a,A.handled=some (.ref a)->a≠it)(b:s.heap.IsStrIter it "str_ascii_iterator" x t i)(d:x.cps[i]?=none)(c:∀h',Heap.ExtBut it s.heap h'->Q none {s with heap:=h'}):wpAny (model prog w) A (pyNext (.ref it)) Q E s:=by obtain⟨o,ho,hc,hd⟩:=id b;unfold pyNext;refine zQ00 (wpAny_attempt (wpAny_callSpecial?_slot (name:=Str.ofString "__next__") b.typeIs F.slot_str_ascii_iterator_next (fF F.slot_str_ascii_iterator_next b.typeIs F.entry_str_ascii_iterator_next ?_ (F.args_str_ascii_iterator_next_1 _))));show wpAny (model prog w) _ (field (.ref it) 0>>=_) _ _ s;refine zQ00 (cQ ho hd (x:= .str x t) rfl ?_);show wpAny (model prog w) _ (field (.ref it) 1>>=_) _ _ s;refine zQ00 (cQ ho hd (x:= .int i 0) rfl ?_);simp only[Int.toNat_natCast,d];refine zQ00 (wpAny_rule (zQ00 (wpAny_setField ho hd (by simp) (zQ00 (wpAny_letGo ?_)))));exact d_ (A:=A.in1) (hb.upd na) λh' e k he=>zQ00 (jh he (zQ02 (c h' (iB k))))
theorem ni{it:Addr}{x:Str}{t:Tok}{i:Nat}{Q:Option Value->Shared->Prop}(hb:HB s.heap A)(na:∀a,A.handled=some (.ref a)->a≠it)(b:s.heap.IsStrIter it "str_iterator" x t i)(d:x.cps[i]?=none)(c:∀h',Heap.ExtBut it s.heap h'->Q none {s with heap:=h'}):wpAny (model prog w) A (pyNext (.ref it)) Q E s:=by obtain⟨o,ho,hc,hd⟩:=id b;unfold pyNext;refine zQ00 (wpAny_attempt (wpAny_callSpecial?_slot (name:=Str.ofString "__next__") b.typeIs F.slot_str_iterator_next (fF F.slot_str_iterator_next b.typeIs F.entry_str_iterator_next ?_ (F.args_str_iterator_next_1 _))));show wpAny (model prog w) _ (field (.ref it) 0>>=_) _ _ s;refine zQ00 (cQ ho hd (x:= .str x t) rfl ?_);show wpAny (model prog w) _ (field (.ref it) 1>>=_) _ _ s;refine zQ00 (cQ ho hd (x:= .int i 0) rfl ?_);simp only[Int.toNat_natCast,d];refine zQ00 (wpAny_rule (zQ00 (wpAny_setField ho hd (by simp) (zQ00 (wpAny_letGo ?_)))));exact d_ (A:=A.in1) (hb.upd na) λh' e k he=>zQ00 (jh he (zQ02 (c h' (iB k))))
theorem ED{t:Addr}{items:Array Value}{Q:List Value->Shared->Prop}(hb:HB s.heap A)(ht:s.heap.IsTuple t items)(i:∀h',Heap.ExtBut s.heap.objs.size s.heap h'->Q items.toList {s with heap:=h'}):wpAny (model prog w) A (unpackItems (.ref t) items.size none) Q E s:=by
 have hlt:t≠s.heap.objs.size:=by obtain⟨o,ho,_⟩:=ht;exact zQ18 (zQ05 ho)
 have f:∀a,A.handled=some (.ref a)->a≠s.heap.objs.size:=λa c=>by
  rcases hb with hb|⟨p,oe,vs,g,h,_⟩;·rw[hb]at c;cases c
  ·rw[g]at c;cases c;exact zQ18 (zQ05 h)
 unfold unpackItems;refine zQ00 ?_;unfold notIterableAtAll;refine zQ00 (wpAny_specialOf ht.typeIs F.slot_tuple_iter.lookup (zQ02 ?_));simp only[gK,if_false];refine zQ00 (eh (wpAny_pyIter_tuple ht ?_));refine zQ00 (eh (wpAny_draw_tuple hlt items.size 0 _ _ ⟨_,zQ06 _ rfl,rfl,rfl⟩ (ht.push _) (by lia) λh₁ l d=>?_));rw[show List.take items.size (List.drop 0 items.toList)=items.toList by rw[List.drop_zero];exact List.take_of_length_le (by simp),if_neg (by simp)];have m:h₁.IsTuple t items:=(ht.push _).extBut d.extBut hlt;have j:HB h₁ A:=hb.mono λa o c eo=>d.extBut a o (f a c) (zQ01 _ eo);refine zQ00 (eh (next_tuple_end (s:={s with heap:=h₁}) j f l m (by simp) λn k=>?_));simp only[Option.isSome_none,gK,if_false];exact zQ02 (i n λb o hb e=>k b o hb (d.extBut b o hb (zQ01 _ e)))
theorem DW{env:Env}{elts:List Expr}{c}{b:Pos}{t:Addr}{items:Array Value}{Q:Unit->Shared->Prop}(hb:HB s.heap A)(ht:s.heap.IsTuple t items)(hn:(assignEach elts env).length=items.size)(a:(assignEach elts env).findIdx? (·.1)=none)(h:∀h',Heap.ExtBut s.heap.objs.size s.heap h'->wpAny (model prog w) A (assignInOrder ((assignEach elts env).map (·.2)) items.toList) Q E {s with heap:=h'}):wpAny (model prog w) A (assign (.Tuple elts c b) env (.ref t)) Q E s:=by rw[arm_assign_Tuple];refine zQ00 (wpAny_standAt ?_);unfold unpack;rw[hn,a];exact zQ00 (eh (ED hb ht h))
end
theorem vF{prog:Program}{w:World}{A:Around}{s:Shared}{Q:Option Value->Shared->Prop}{E:Value->Shared->Prop}{I:Addr}{a c:Int}{n i:Nat}(hi:i<n)(st:IsRangeIter s.heap I (a+(i:Nat)*c) ((n:Int)-(i:Nat)) c)(d:∀v h' tk,(∃t,v= .int (a+i*c) t)->IsRangeIter h' I (a+((i+1:Nat):Int)*c) ((n:Int)-((i+1:Nat):Int)) c->(∀b o,b∉[I]->s.heap.get? b=some o->h'.get? b=some o)->Q (some v) {s with heap:=h',toks:=tk}):wpAny (model prog w) A (pyNext (.ref I)) Q E s:=by refine wpAny_pyNext_range_item st (by lia) λh' f g=>d _ h' _ ⟨_,rfl⟩ ?_ λb o hb e=>g.extBut b o (λh=>hb (by simp[h])) e;rw[show a+((i+1:Nat):Int)*c=a+(i:Int)*c+c by push_cast;rw[Int.add_mul,Int.one_mul,Int.add_assoc],show(n:Int)-((i+1:Nat):Int)=(n:Int)-(i:Int)-1 by push_cast;lia];exact f
noncomputable def jJ(A:Around):List Addr:=match A.handled with|some (.ref a)=>[a]|_=>[]
theorem l4{A:Around}{d:Addr}(h:d∈jJ A):A.handled=some (.ref d):=by
 unfold jJ at h;split at h;·rename_i a e;rw[List.mem_singleton.mp h];exact e
 ·cases h
theorem HB.frame{A:Around}{h h':Heap}(hb:HB h A)(k:∀b∈jJ A,∀o,h.get? b=some o->h'.get? b=some o):HB h' A:=hb.mono λa o c eo=>k a (by unfold jJ;rw[c];simp) o eo
theorem uQ{prog:Program}{w:World}{A:Around}(I c:Addr)(hne:c≠I)(items:Array Value)(na:∀a,A.handled=some (.ref a)->a≠I):Walks prog w A I (I::c::jJ A) [I] items.size (λi v=>items[i]?=some v) (λi h=>h.IsListIter I c i/\h.IsList c items/\HB h A)where
 sub:=λb hb=>by simp at hb;simp[hb]
 frame:=λ_ _ _ st f=>⟨st.1.at λo e=>f I (by simp) o e,st.2.1.at λo e=>f c (by simp) o e,st.2.2.frame λb hb=>f b (by simp[hb])⟩;item:=λi s Q E hi st d=>by refine wpAny_pyNext_list_item st.1 st.2.1 (x:=items[i]) (by simp[hi]) λh' k g=>?_;exact d _ h' s.toks (by simp[hi]) ⟨k,st.2.1.extBut g.extBut hne,st.2.2.mono λa o j eo=>g.extBut a o (na a j) eo⟩ λb o hb e=>g.extBut b o (λh=>hb (by simp[h])) e
 done:=λs Q E st d=>gW st.2.2 na st.1 st.2.1 (by simp) λh' he'=>d h' s.toks λb o hb e=>he' b o (λh=>hb (by simp[h])) e;self:=λ_ _ _ _ st d=>wpAny_pyIter_listiter st.1 d
noncomputable abbrev Key:=Sum Int Str
noncomputable def nY:Key->Value->Bool| .inl k,v=>Value.isInt k v| .inr x,v=>Value.isStrOf x v
noncomputable def ON(w:World):Key->Int| .inl k=>hashInt k| .inr x=>hashStr w x
theorem bL:∀{k:Key}{v:Value},nY k v=true->(∃i t,k=Sum.inl i/\v=Value.int i t)\/(∃x t,k=Sum.inr x/\v=Value.str x t)| .inl i,v,h=>by obtain⟨t,e⟩:=Value.isInt_shape (k:=i) (v:=v) h;exact .inl ⟨i,t,rfl,e⟩| .inr x,v,h=>by obtain⟨t,e⟩:=Value.isStrOf_shape (x:=x) (v:=v) h;exact .inr ⟨x,t,rfl,e⟩
theorem zC(i:Int)(t:Tok):nY (.inl i) (.int i t)=true:=by simp[nY,Value.isInt]
theorem zJ(x:Str)(t:Tok):nY (.inr x) (.str x t)=true:=by simp[nY,Value.isStrOf]
theorem Ih(a b:Int):decide ((Sum.inl a:Key)=Sum.inl b)=(a==b):=by
 by_cases e:a=b;·subst e;simp
 ·have h:¬(Sum.inl a:Key)=Sum.inl b:=λq=>e (Sum.inl.inj q);rw[decide_eq_false h];exact(beq_eq_false_iff_ne.mpr e).symm
theorem Ie(a b:Str):decide ((Sum.inr a:Key)=Sum.inr b)=decide (a=b):=by
 by_cases e:a=b;·subst e;simp
 ·have h:¬(Sum.inr a:Key)=Sum.inr b:=λq=>e (Sum.inr.inj q);rw[decide_eq_false h,decide_eq_false e]
theorem Ja(a:Int)(b:Str):decide ((Sum.inl a:Key)=Sum.inr b)=false:=decide_eq_false (λq=>nomatch q)
theorem Jw(a:Str)(b:Int):decide ((Sum.inr a:Key)=Sum.inl b)=false:=decide_eq_false (λq=>nomatch q)
noncomputable def bP(prog:Program)(w:World):PySem.KeyKind prog w Key where
 is:=nY;hash:=ON w;inj:=λv a b ha hb=>by
  rcases bL ha with⟨i,t,rfl,rfl⟩|⟨x,t,rfl,rfl⟩
  ·rcases bL hb with⟨j,u,rfl,e⟩|⟨y,u,rfl,e⟩;·injection e with c _;rw[c]
   ·exact nomatch e
  ·rcases bL hb with⟨j,u,rfl,e⟩|⟨y,u,rfl,e⟩;·exact nomatch e
   ·injection e with c _;rw[c]
 byValue:=λk v h=>by rcases bL h with⟨i,t,rfl,rfl⟩|⟨x,t,rfl,rfl⟩<;>rfl
 pyHash:=λhv h=>by
  rcases bL hv with⟨i,t,rfl,rfl⟩|⟨x,t,rfl,rfl⟩;·exact wpAny_pyHash_int h
  ·exact wpAny_pyHash_str h
 eqBool:=λd hv h=>by
  rcases bL d with⟨i,t,rfl,rfl⟩|⟨x,t,rfl,rfl⟩
  ·rcases bL hv with⟨j,u,rfl,rfl⟩|⟨y,u,rfl,rfl⟩;·rw[Ih]at h;exact wpAny_eqBool_int h
   ·rw[Ja]at h;exact SeqAt.EqAt.int_str i t y u _ _ _ _ h
  ·rcases bL hv with⟨j,u,rfl,rfl⟩|⟨y,u,rfl,rfl⟩;·rw[Jw]at h;exact SeqAt.EqAt.str_int x t j u _ _ _ _ h
   ·rw[Ie]at h;exact wpAny_eqBool_str h
 «strs»:=λk x t v h=>by
  rcases bL h with⟨i,u,rfl,e⟩|⟨y,u,rfl,e⟩;·exact nomatch e
  ·injection e with c _;subst c;cases v<;>rfl
theorem tP(prog:Program)(w:World)(i:Int)(t:Tok):(bP prog w).is (.inl i) (.int i t)=true:=zC i t
theorem um(prog:Program)(w:World)(x:Str)(t:Tok):(bP prog w).is (.inr x) (.str x t)=true:=zJ x t
inductive V where|a_|bl(b:Bool)|int(i:Int)|str(x:Str)|zN(b:Array UInt8)|IP(b:UInt64)|ref(a:Addr)|ty(n:String)deriving DecidableEq
noncomputable def RelV:V->Value->Prop| .a_,u=>u=Value.none| .bl b,u=>u=Value.bool b| .int i,u=>∃t,u=Value.int i t| .str x,u=>∃t,u=Value.str x t| .zN b,u=>∃t,u=Value.bytes b t| .IP b,u=>∃t,u=Value.float b t| .ref a,u=>u=Value.ref a| .ty n,u=>u=Value.type n
noncomputable abbrev Vals:List V->List Value->Prop:=Paired RelV
theorem Vals.length{xs:List V}{us:List Value}(r:Vals xs us):xs.length=us.length:=Paired.length r
theorem Vals.get:∀{xs:List V}{us:List Value}{i:Nat}{x:V},Vals xs us->xs[i]?=some x->∃u,us[i]?=some u/\RelV x u|_,_,_,_, .nil,e=>by simp at e|_,_,0,_, .cons r _,e=>by simp at e;subst e;exact⟨_,rfl,r⟩|_,_,i+1,x, .cons _ t,e=>by obtain⟨u,h1,h2⟩:=Vals.get (i:=i) (x:=x) t (by simpa using e);exact⟨u,by simpa using h1,h2⟩
theorem Vals.set{x:V}{u:Value}(r:RelV x u):∀{xs:List V}{us:List Value}(i:Nat),Vals xs us->Vals (xs.set i x) (us.set i u)|_,_,_, .nil=> .nil|_,_,0, .cons _ t=> .cons r t|_,_,i+1, .cons q t=> .cons q (Vals.set r i t)
theorem Vals.append:∀{xs a:List V}{us ws:List Value},Vals xs us->Vals a ws->Vals (xs++a) (us++ws)|_,_,_,_, .nil,s=>s|_,_,_,_, .cons r t,s=> .cons r (Vals.append t s)
theorem Vals.take:∀{xs:List V}{us:List Value}(n:Nat),Vals xs us->Vals (xs.take n) (us.take n)|_,_,0,_=> .nil|_,_,_+1, .nil=> .nil|_,_,n+1, .cons r t=> .cons r (Vals.take n t)
theorem Vals.drop:∀{xs:List V}{us:List Value}(n:Nat),Vals xs us->Vals (xs.drop n) (us.drop n)|_,_,0,r=>r|_,_,_+1, .nil=> .nil|_,_,n+1, .cons _ t=>Vals.drop n t
noncomputable def jQ:Option V->Option Value->Prop|some v,some u=>RelV v u|none,none=>True|_,_=>False
noncomputable def KV{a:Type}:List (a×V)->List (a×Value)->Prop:=Paired λ(p:a×V)(q:a×Value)=>p.1=q.1/\RelV p.2 q.2
noncomputable def kV:Key->V| .inl i=> .int i| .inr x=> .str x
inductive Ed where|tab(q:Str)(ln cl:Value)|code(q:Str)
inductive HO where/--a list -/|lst(xs:List V)/--a tuple (never changes) -/|tup(xs:List V)/--a dict whose keys are ints and texts; one whose keys are tuples of ints and texts (the empty one is both) -/|dK(aW:List (Key×V))|dT(aW:List (List Key×V))/--a set of ints: its members, its size -/|set(S:Int->Bool)(n:Nat)/--an instance of the class at C, its dict at dx, its attributes -/|ins(C dx:Addr)(fs:List (Str×V))/--the dict of the instance at x -/|own(x:Addr)/--the dict of an exception -/|xd(fs:List (Str×V))/--a bound method, f of x -/|met(f x:Addr)/--a range object lo, lo + 1, .. below hi -/|N4(lo hi:Int)/--a thing that is known to the object (the script; a dict while a loop walks it): read, never written while it is so -/|uM(o:Obj)(u:HO)/--a code object's table -/|m_(ps:Ed)/--any other thing, by what is true of its one object (a def of one's own: SetO a S n := HO.ext fun h => ..) -/|ext(φ:Heap->Prop)
noncomputable abbrev Hp:=Addr->Option HO
noncomputable def upd(H:Hp)(a:Addr)(o:HO):Hp:=λb=>if b=a then some o else H b
theorem aj{H:Hp}{a:Addr}{o:HO}:upd H a o a=some o:=by unfold upd;rw[if_pos rfl]
theorem aI{H:Hp}{a b:Addr}{o:HO}(h:b≠a):upd H a o b=H b:=by unfold upd;rw[if_neg h]
theorem k9{H:Hp}{a:Addr}{o u:HO}:upd (upd H a o) a u=upd H a u:=by funext b;unfold upd;split<;>rfl
theorem F0{H:Hp}{a b:Addr}{o u:HO}(h:H a=some o)(h':H b=some u)(d:o≠u):a≠b:=by intro e;subst e;rw[h]at h';exact d (Option.some.inj h')
theorem aA{H:Hp}{a b:Addr}{o:HO}(h:H a=some o)(h':H b=none):a≠b:=by intro e;subst e;rw[h]at h';cases h'
section
variable(P:Program)(w:World)
noncomputable def bC(H:Hp)(h:Heap)(a:Addr):HO->Prop| .lst xs=>xs.length<=sizeLine/\∃(b:List Value)(n:Nat),Vals xs b/\h.get? a=some {cls:= .type "list",data:= .seq b.toArray n}| .tup xs=>xs.length<=sizeLine/\∃b:List Value,Vals xs b/\IsTup h a b.toArray| .dK aW=>aW.length<=sizeLine/\(a==sysModules)=false/\∃vs,KV aW vs/\h.DictOf (bP P w) a vs| .dT aW=>aW.length<=sizeLine/\(a==sysModules)=false/\∃xs:List (List Key×Addr×Value),Paired (λ(p:List Key×V)(q:List Key×Addr×Value)=>p.1=q.1/\H q.2.1=some (.tup (p.1.map kV))/\RelV p.2 q.2.2) aW xs/\∃o es ep,h.get? a=some o/\o.ExactDict/\o.data= .dict es ep/\es.toList=xs.map (entryOfKey (tupleKind (bP P w)))/\(xs.map (·.1)).Nodup| .set S n=>h.SetOf (intKind P w) a S n| .ins C dx fs=>H dx=some (.own a)/\fs.length<=1000/\dx≠a/\h.get? a=some (PySem.W.instObj C dx)/\∃mA,h.Ns1 dx mA/\(∀f,jQ (fs.lookup f) (mA f))/\PySem.Within mA (fs.map (·.1))| .own _=>∃o,h.get? a=some o| .xd fs=>∃mA,h.Ns1 a mA/\∀f,jQ (fs.lookup f) (mA f)| .N4 lo hi=>∃t u v,h.get? a=some {cls:= .type "range",data:= .fields #[.int lo t, .int hi u, .int 1 v]}| .uM o u=>h.get? a=some o/\bC H h a u| .m_ (.tab q ln cl)=>h.get? a=some {cls:= .none,data:= .fields #[]}\/∃c,h.get? a=some {cls:= .none,data:= .fields #[ln,cl, .ref c]}/\H c=some (.m_ (.code q))| .m_ (.code q)=>h.CodeRec (.ref a) q| .met f x=>h.get? a=some (PySem.W.methodObj (.ref f) (.ref x))| .ext φ=>φ h/\(∃o,h.get? a=some o)/\∀h1 h2:Heap,φ h1->(∀o,h1.get? a=some o->h2.get? a=some o)->φ h2
def fL(H:Hp)(h:Heap):Prop:=∀a o,H a=some o->bC P w H h a o
end
section
variable{P:Program}{w:World}{H H':Hp}{h h':Heap}{a:Addr}{o:HO}
theorem bC.lt(x:bC P w H h a o):a<h.objs.size:=by
 cases o with
  |lst xs=>obtain⟨_,_,_,_,e⟩:=x;exact zQ05 e
  |tup xs=>obtain⟨_,_,_,p⟩:=x;exact p.lt
  |dK aW=>obtain⟨_,_,_,_,o,_,_,e,_⟩:=x;exact zQ05 e
  |dT aW=>obtain⟨_,_,_,_,o,_,_,e,_⟩:=x;exact zQ05 e
  |set S n=>obtain⟨o,_,_,_,e,_⟩:=x;exact zQ05 e
  |ins C dx fs=>obtain⟨_,_,_,e,_⟩:=x;exact zQ05 e
  |own y=>obtain⟨_,e⟩:=x;exact zQ05 e
  |xd fs=>obtain⟨_,⟨_,_,_,e,_⟩,_⟩:=x;exact zQ05 e
  |N4 lo hi=>obtain⟨_,_,_,e⟩:=x;exact zQ05 e
  |uM ob u=>obtain⟨e,_⟩:=x;exact zQ05 e
  |m_ ps=>cases ps with|tab q ln cl=>rcases x with e|⟨c,e,_⟩<;>exact zQ05 e|code q=>obtain⟨c,o,vs,t,b,d,_⟩:=x;cases b;exact zQ05 d
  |met f y=>exact zQ05 (show h.get? a=some _ from x)
  |ext φ=>obtain⟨_,⟨_,e⟩,_⟩:=x;exact zQ05 e
theorem Paired.Lp{e g:Type}{F G:e->g->Prop}:∀{c:List e}{d:List g},Paired F c d->(∀a b,F a b->G a b)->Paired G c d|_,_, .nil,_=> .nil|_,_, .cons r t,f=> .cons (f _ _ r) (Paired.Lp t f)
noncomputable def Fix:HO->Prop| .tup _=>True| .m_ _=>True|_=>False
noncomputable abbrev MT:={u:HO//Fix u}
theorem bC.nF(x:bC P w H h a o)(k:∀b u,(b=a\/H b=some (.own a))->h.get? b=some u->h'.get? b=some u)(ho:∀b,H b=some (.own a)->H' b=some (.own a))(ht:∀(b:Addr)(u:MT),H b=some u.1->H' b=some u.1):bC P w H' h' a o:=by
 induction o with
  |lst xs=>obtain⟨z,i,n,r,e⟩:=x;exact⟨z,i,n,r,k _ _ (.inl rfl) e⟩
  |tup xs=>obtain⟨z,i,r,ob,e,c⟩:=x;exact⟨z,i,r,ob,k _ _ (.inl rfl) e,c⟩
  |dK aW=>obtain⟨z,y,vs,r,ob,es,ep,e,c⟩:=x;exact⟨z,y,vs,r,ob,es,ep,k _ _ (.inl rfl) e,c⟩
  |dT aW=>obtain⟨z,y,xs,r,ob,es,ep,e,c⟩:=x;exact⟨z,y,xs,Paired.Lp r λp q z=>⟨z.1,ht _ ⟨.tup _,trivial⟩ z.2.1,z.2.2⟩,ob,es,ep,k _ _ (.inl rfl) e,c⟩
  |set S n=>obtain⟨ob,es,ep,t,e,c⟩:=x;exact⟨ob,es,ep,t,k _ _ (.inl rfl) e,c⟩
  |ins C dx fs=>obtain⟨d,z,ne,e,mA,⟨od,es,ep,g,c⟩,r⟩:=x;exact⟨ho _ d,z,ne,k _ _ (.inl rfl) e,mA,⟨od,es,ep,k _ _ (.inr d) g,c⟩,r⟩
  |own y=>obtain⟨ob,e⟩:=x;exact⟨ob,k _ _ (.inl rfl) e⟩
  |xd fs=>obtain⟨mA,⟨od,es,ep,e,c⟩,r⟩:=x;exact⟨mA,⟨od,es,ep,k _ _ (.inl rfl) e,c⟩,r⟩
  |N4 lo hi=>obtain⟨t,u,v,e⟩:=x;exact⟨t,u,v,k _ _ (.inl rfl) e⟩
  |uM ob u m=>obtain⟨e,q⟩:=x;exact⟨k _ _ (.inl rfl) e,m q⟩
  |m_ ps=>
   cases ps with
    |tab q ln cl=>
     rcases x with e|⟨c,e,r⟩;·exact .inl (k a _ (.inl rfl) e)
     ·exact .inr ⟨c,k a _ (.inl rfl) e,ht c ⟨.m_ (.code q),trivial⟩ r⟩
    |code q=>obtain⟨c,o,vs,t,j,g,l⟩:=x;cases j;exact⟨_,o,vs,t,rfl,k a _ (.inl rfl) g,l⟩
  |met f y=>have e:h.get? a=some (PySem.W.methodObj (.ref f) (.ref y)):=x;show h'.get? a=some (PySem.W.methodObj (.ref f) (.ref y));exact k a _ (.inl rfl) e
  |ext φ=>obtain⟨p,⟨o,e⟩,st⟩:=x;exact⟨st _ _ p λo q=>k _ _ (.inl rfl) q,⟨o,k _ _ (.inl rfl) e⟩,st⟩
theorem fL.lt(x:fL P w H h)(e:H a=some o):a<h.objs.size:=(x a o e).lt
theorem fL.fresh(x:fL P w H h)(e:h.objs.size<=a):H a=none:=by cases q:H a with|none=>rfl|some u=>exact absurd (dQ (x.lt q) e) (Nat.lt_irrefl _)
theorem fL.kept(x:fL P w H h)(k:∀b u,h.get? b=some u->h'.get? b=some u):fL P w H h':=λa o e=>(x a o e).nF (λb u _ q=>k b u q) (λ_ q=>q) λ_ _ q=>q
theorem fL.laid(x:fL P w H h)(k:∀b u,h.get? b=some u->h'.get? b=some u)(d:h.objs.size<=a)(new:bC P w (upd H a o) h' a o):fL P w (upd H a o) h':=λb u e=>by
 have hn:=x.fresh d;by_cases hb:b=a;·subst hb;rw[aj]at e;cases e;exact new
 ·rw[aI hb]at e;exact(x b u e).nF (λc v _ q=>k c v q) (λc q=>by rw[aI (aA q hn)];exact q) λc xs q=>by rw[aI (aA q hn)];exact q
end
def Rd(H:Hp)(a:Addr)(u:HO):Prop:=H a=some u\/∃o,H a=some (.uM o u)
theorem Rd.ok{P:Program}{w:World}{H:Hp}{h:Heap}{a:Addr}{u:HO}(r:Rd H a u)(x:fL P w H h):bC P w H h a u:=by
 rcases r with r|⟨o,r⟩;·exact x a u r
 ·obtain⟨_,q⟩:=x a _ r;exact q
noncomputable def MY:Option HO->Prop|some (.lst _)=>True|some (.dK _)=>True|some (.dT _)=>True|some (.set _ _)=>True|some (.ins _ _ _)=>True|some (.ext _)=>True|_=>False
section
variable{P:Program}{w:World}{H:Hp}{h h':Heap}{x e:Addr}{o':HO}
theorem fL.write(ok:fL P w H h)(d:MY (H x))(he:e=x\/H e=some (.own x))(k:∀b u,b≠e->h.get? b=some u->h'.get? b=some u)(j:∃u,h'.get? e=some u)(new:bC P w (upd H x o') h' x o'):fL P w (upd H x o') h':=λb u q=>by
 have g:∀c y,H c=some (.own y)->c≠x:=λc y r z=>by subst z;rw[r]at d;exact d
 have l:∀(c:Addr)(u:MT),H c=some u.1->c≠x:=λc⟨u,f⟩r z=>by subst z;rw[show H c=some u from r]at d;cases u<;>first|exact d|exact f
 by_cases hb:b=x;·subst hb;rw[aj]at q;cases q;exact new
 ·rw[aI hb]at q;by_cases a:b=e
  ·have i:H b=some (.own x):=by
    rcases he with z|z;·exact absurd (a.trans z) hb
    ·rw[a];exact z
   rw[q]at i;cases i;obtain⟨v,hv⟩:=j;exact⟨v,by rw[a];exact hv⟩
  ·refine(ok b u q).nF (λc v hc r=>k c v ?_ r) (λc r=>by rw[aI (g c b r)];exact r) λc xs r=>by rw[aI (l c xs r)];exact r
   rcases hc with rfl|hc;·exact a
   ·rintro rfl;rcases he with z|z;·exact g c b hc z
    ·rw[hc]at z;cases z;exact hb rfl
end
structure Un(fs ex:List Addr)(H H':Hp)(h h':Heap):Prop where
 keep:∀b o,h.get? b=some o->H b=none->b∉fs->b∉ex->h'.get? b=some o
 slot:∀b o,h.get? b=some o->H b=none->b∈fs->b∉ex->∃sl,h'.get? b=some {o with slots:=sl}
 free:∀b o,h.get? b=some o->H b=none->b∉ex->H' b=none
 there:∀b o,h.get? b=some o->b∉ex->∃o',h'.get? b=some o'
 ny:∀b xs,H b=some (.tup xs)->H' b=some (.tup xs)
 mL:∀b o u,H b=some (.uM o u)->H' b=some (.uM o u)
 lL:∀b ps,H b=some (.m_ ps)->H' b=some (.m_ ps)
section
variable{fs U6 ex Wq:List Addr}{H H1 H2:Hp}{h h1 h2 h':Heap}{a x e:Addr}{o:HO}
theorem Un.any(u:Un fs ex H H1 h h1){b:Addr}{ob:Obj}(q:h.get? b=some ob)(n:H b=none)(c:b∉ex):∃sl,h1.get? b=some {ob with slots:=sl}:=by
 by_cases hb:b∈fs;·exact u.slot b ob q n hb c
 ·exact⟨ob.slots,u.keep b ob q n hb c⟩
theorem Un.kept(k:∀b u,h.get? b=some u->h'.get? b=some u):Un fs ex H H h h':=⟨λb ob q _ _ _=>k b ob q,λb ob q _ _ _=>⟨ob.slots,k b ob q⟩,λ_ _ _ n _=>n,λb ob q _=>⟨ob,k b ob q⟩,λ_ _ q=>q,λ_ _ _ q=>q,λ_ ps q=>(by rw[q])⟩
theorem Un.refl:Un fs ex H H h h:=Un.kept λ_ _ q=>q
theorem Un.laid(k:∀b u,h.get? b=some u->h'.get? b=some u)(c:h.objs.size<=a)(hn:H a=none):Un fs ex H (upd H a o) h h' where
 keep:=λb u q _ _ _=>k b u q;slot:=λb u q _ _ _=>⟨u.slots,k b u q⟩;free:=λb u q n _=>by rw[aI (zQ18 (dQ (zQ05 q) c))];exact n
 there:=λb u q _=>⟨u,k b u q⟩;ny:=λb xs q=>by rw[aI (aA q hn)];exact q
 mL:=λb u xs q=>by rw[aI (aA q hn)];exact q
 lL:=λb ps q=>(by rw[aI (aA q hn),q])
theorem Un.write(c:MY (H x))(he:e=x\/H e=some (.own x))(k:∀b u,b≠e->h.get? b=some u->h'.get? b=some u)(g:∃u,h'.get? e=some u):Un fs ex H (upd H x o) h h':=by
 have f:∀b,H b=none->b≠x:=λb n z=>by subst z;rw[n]at c;exact c
 have hb:∀b,H b=none->b≠e:=λb n z=>by
  subst z;rcases he with r|r;·exact f b n r
  ·rw[n]at r;cases r
 have hm:∀b u,H b=some u->¬MY (some u)->b≠x:=λb u q i z=>by subst z;rw[q]at c;exact i c
 refine⟨λb u q n _ _=>k b u (hb b n) q,λb u q n _ _=>⟨u.slots,k b u (hb b n) q⟩,λb u q n _=>by rw[aI (f b n)];exact n,λb u q _=>?_,λb xs q=>by rw[aI (hm b _ q λz=>z)];exact q,λb u xs q=>by rw[aI (hm b _ q λz=>z)];exact q,λb ps q=>(by rw[aI (hm b _ q λz=>z),q])⟩;by_cases d:b=e;·subst d;exact g
 ·exact⟨u,k b u d q⟩
end
noncomputable def N0(h:Heap)(H:Hp):List Addr:=(List.range h.objs.size).filter λa=>(H a).isSome
noncomputable def pJ(h:Heap)(H:Hp):Heap:=PySem.W.hideAll h (N0 h H)
theorem oG(h:Heap)(H:Hp):(pJ h H).objs.size=h.objs.size:=PySem.W.hideAll_size _ _
theorem iU{h:Heap}{H:Hp}{b:Addr}{o:Obj}(e:h.get? b=some o)(n:H b=none):(pJ h H).get? b=some o:=PySem.W.hideAll_get _ e λhm=>by have q:(H b).isSome=true:=(List.mem_filter.mp hm).2;rw[n]at q;simp at q
theorem wm{h:Heap}{H:Hp}{b:Addr}{o:Obj}(e:(pJ h H).get? b=some o):h.get? b=some o/\H b=none:=by have a:h.get? b=some o:=PySem.W.of_hideAll (N0 h H) e;refine⟨a,?_⟩;cases q:H b with|none=>rfl|some x=>have hm:b∈N0 h H:=List.mem_filter.mpr ⟨List.mem_range.mpr (zQ05 a),by simp[q]⟩;have z:(pJ h H).get? b=none:=PySem.W.hideAll_none (N0 h H) hm;rw[z]at e;cases e
noncomputable def Ei(g h:Heap)(L:Addr):List (Addr×Obj):=(List.range h.objs.size).filterMap λa=>if a=L\/(g.get? a).isSome=true then none else(h.get? a).map λo=>(a,o)
noncomputable def rest(g h:Heap)(L d:Addr):List (Addr×Obj):=(Ei g h L).filter λp=>decide (p.1≠d)
def ML(mg:Str->Option Value)(h:Heap):Prop:=∃bm ob,mg "__builtins__"=some (.ref bm)/\bm≠builtinsNs/\h.get? bm=some ob/\ob.cls= .type "module"/\ob.dict=some builtinsNs/\ob.data= .plain
theorem ML.keeps{mg:Str->Option Value}{h h':Heap}(x:ML mg h)(k:∀b o,h.get? b=some o->h'.get? b=some o):ML mg h':=let⟨bm,ob,a,b,c,d⟩:=x;⟨bm,ob,a,b,k _ _ c,d⟩
structure Mod(K:PySem.W.Frag)(mg:Str->Option Value)(base:Heap):Prop where
 AS:K.In base
 glob:base.Ns mainGlobals mg
 blt:∃mb,base.Ns builtinsNs mb/\∀x:Str,x≠"__name__"->mb x=bootBuiltins x
 nolimit:base.NoLimit
 bm:ML mg base
structure Cx where
 prog:Program
 w:World
 K:PySem.W.Frag
 mg:Str->Option Value
 base:Heap
 A:Around
 N:List Str
 bG:Shared
 H₀:Hp
 env:Env
 outer:List Env
 stack:List Env
 ex:List Addr
 fn:Str->Bool
 calm:Bool
 pn:List (Addr×Obj)
 xe:Value->Shared->Prop
noncomputable def gu(l:List Env):List Addr:=l.filterMap (·.frame)
noncomputable abbrev Cx.fs(X:Cx):List Addr:=gu X.outer
def Ml(sc:Scope)(x:Str):Prop:=sc.names.lookup x=some .local\/sc.names.lookup x=some .cell\/sc.names.lookup x=some .free
def Loc(sc:Scope)(x:Str):Prop:=sc.names.lookup x=some .local\/sc.names.lookup x=some .cell
noncomputable def MM(sc:Scope)(x:Str):Bool:=match sc.names.lookup x with|some .local=>true|some .cell=>true|_=>false
theorem eN{sc:Scope}{x:Str}(h:MM sc x=true):Loc sc x:=by
 unfold MM at h;split at h;·exact Or.inl (by assumption)
 ·exact Or.inr (by assumption)
 ·cases h
noncomputable def Look(env:Env)(h:Heap)(m:Str->Option Value)(x:Str)(u:Value):Prop:=(env.kindOf x=some .local/\m x=some u)\/((env.kindOf x=some .cell\/env.kindOf x=some .free)/\∃c,env.cells.lookup x=some c/\h.IsCell c (some u))
structure Cx.Ok(X:Cx):Prop where
 mod:Mod X.K X.mg X.base
 kind:X.env.scope.kind= .function
 glob:X.env.globals=mainGlobals
 blt:X.env.builtins=builtinsNs
 above:X.bG.heap.objs.size<=X.env.locals
 inj:∀x y c,X.env.cells.lookup x=some c->X.env.cells.lookup y=some c->x=y
 has:∀x,(X.env.kindOf x=some .cell\/X.env.kindOf x=some .free)->∃c,X.env.cells.lookup x=some c
 C7:∀x c,X.fn x=true->X.env.cells.lookup x=some c->X.bG.heap.objs.size<=c
 hd:X.calm=true->Og X.base X.pn X.A
 frames:X.A.frames=some X.stack
 Gm:X.stack=X.outer\/(X.stack=X.env::X.outer/\X.env.frame=some X.env.locals)
 GF:∀b∈X.ex,b≠X.env.locals/\∀x c,X.env.cells.lookup x=some c->c≠b
 bs:∀b o,X.base.get? b=some o->X.bG.heap.get? b=some o/\X.H₀ b=none
 uF:X.base.objs.size<=X.bG.heap.objs.size
 mS:∀b o,X.base.get? b=some o->b∉X.ex
 nI:∀b∈X.ex,b∉X.fs
 eS:X.bG.heap.FunFrames X.base X.outer
 zT:∀b∈X.fs,X.H₀ b=none
structure Inv(X:Cx)(pins:List (Addr×Obj))(σ:List (Option V))(H:Hp)(s:Shared):Prop where
 ok:X.Ok
 os:s.os=X.bG.os
 bare:AllBare s.gens
 base:Un X.fs X.ex X.H₀ H X.bG.heap s.heap
 loc:∃m,s.heap.Ns X.env.locals m/\∀(i:Nat)(x:Str)(v:V),X.N[i]?=some x->σ[i]?=some (some v)->Ml X.env.scope x->∃u,RelV v u/\Look X.env s.heap m x u
 cell:∀x c,X.env.cells.lookup x=some c->∃v,s.heap.IsCell c v
 free:H X.env.locals=none
 cX:∀x c,X.env.cells.lookup x=some c->H c=none
 pin:∀p∈X.pn++pins,s.heap.get? p.1=some p.2/\H p.1=none/\p.1≠X.env.locals/\p.1∉X.fs/\∀v,p.2.data≠ .cell v
 bc:fL X.prog X.w H s.heap
 len:σ.length=X.N.length
section
variable{X:Cx}{pins:List (Addr×Obj)}{σ:List (Option V)}{H H':Hp}{s:Shared}{h':Heap}
theorem Cx.Ok.JF(ok:X.Ok){b:Addr}{o:Obj}(e:X.base.get? b=some o):b∉X.fs:=λhb=>by have :=(ok.eS.mem hb).1;rw[e]at this;cases this
theorem Inv.bs(I:Inv X pins σ H s):∀b o,X.base.get? b=some o->s.heap.get? b=some o/\H b=none:=λb o e=>⟨I.base.keep b o (I.ok.bs b o e).1 (I.ok.bs b o e).2 (I.ok.JF e) (I.ok.mS b o e),I.base.free b o (I.ok.bs b o e).1 (I.ok.bs b o e).2 (I.ok.mS b o e)⟩
theorem Inv.bk(I:Inv X pins σ H s):∀b o,X.base.get? b=some o->s.heap.get? b=some o:=λb o e=>(I.bs b o e).1
theorem Inv.mod(I:Inv X pins σ H s):Mod X.K X.mg X.base:=I.ok.mod
theorem Inv.hb(I:Inv X pins σ H s)(hc:X.calm=true):HB s.heap X.A:=by
 rcases I.ok.hd hc with h|⟨a,oe,vs,b,c,d⟩;·exact .inl h
 ·exact .inr ⟨a,oe,vs,b,c.elim (I.bk a oe) λm=>(I.pin (a,oe) (jy _ m)).1,d⟩
theorem Inv.FC(I:Inv X pins σ H s)(hc:X.calm=true){it:Addr}(f:it∈X.ex\/X.bG.heap.objs.size<=it)(g:∀p∈X.pn++pins,p.1≠it):∀a,X.A.handled=some (.ref a)->a≠it:=λa d z=>by
 subst z;rcases I.ok.hd hc with h|⟨b,oe,vs,e,c,i⟩;·rw[h]at d;cases d
 ·rw[e]at d;cases d;rcases c with c|c
  ·rcases f with z|z;·exact I.ok.mS _ _ c z
   ·exact absurd (dQ (zQ05 c) I.ok.uF) (Nat.not_lt.mpr z)
  ·exact g _ (jy _ c) rfl
theorem Inv.jo(I:Inv X pins σ H s):X.K.In s.heap:=I.ok.mod.AS.keeps I.bk
theorem Inv.fr(I:Inv X pins σ H s):∃m,Fr X.base X.env.locals s.heap m:=let⟨m,hn,_⟩:=I.loc;⟨m,hn,I.bk,cu I.ok.uF I.ok.above⟩
theorem Inv.lt(I:Inv X pins σ H s):X.env.locals<s.heap.objs.size:=let⟨_,hn,_⟩:=I.loc;hn.lt
theorem Inv.sz(I:Inv X pins σ H s):X.bG.heap.objs.size<=s.heap.objs.size:=cu I.ok.above (Nat.le_of_lt I.lt)
theorem Inv.OM(I:Inv X pins σ H s){a:Addr}(h:s.heap.objs.size<=a):a∉X.fs:=λhb=>by obtain⟨_,o,ho,_⟩:=I.ok.eS.mem hb;exact absurd (dQ (zQ05 ho) (cu I.sz h)) (Nat.lt_irrefl _)
theorem Inv.FG(I:Inv X pins σ H s):∀x c,X.env.cells.lookup x=some c->c≠X.env.locals:=λx c e z=>by obtain⟨v,o,ho,hd⟩:=I.cell x c e;obtain⟨m,⟨o',es,ep,b,a,_⟩,_⟩:=I.loc;rw[z,b]at ho;cases ho;rw[a]at hd;cases hd
theorem Inv.eS(I:Inv X pins σ H s):s.heap.FunFrames X.base X.outer:=by
 have all:∀(l:List Env),(∀b∈gu l,b∈X.fs)->X.bG.heap.FunFrames X.base l->s.heap.FunFrames X.base l:=by intro l;induction l with|nil=>intro _ _;trivial|cons env r g=>intro d hl;obtain⟨f,⟨L,o,c,hn,ho,hd⟩,hr⟩:=hl;have a:L∈X.fs:=d L (by unfold gu;rw[List.filterMap_cons,c];exact cY);obtain⟨sl,e⟩:=I.base.slot L o ho (I.ok.zT L a) a λz=>I.ok.nI L z a;exact⟨f,⟨L,_,c,hn,e,hd⟩,g (λb hb=>d b (by unfold gu;rw[List.filterMap_cons,c];exact c_ _ hb)) hr⟩
 exact all X.outer (λ_ hb=>hb) I.ok.eS
theorem Inv.stack(I:Inv X pins σ H s):s.heap.FunFrames X.base X.stack:=by
 rcases I.ok.Gm with e|⟨e,a⟩;·rw[e];exact I.eS
 ·rw[e];obtain⟨m,hn,_⟩:=I.loc;refine .cons (by rw[I.ok.kind];decide) a hn ?_ I.eS;exact Heap.get?_none_of_le (cu I.ok.uF I.ok.above)
theorem Inv.eH(I:Inv X pins σ H s):∀b∈gu X.stack,b∈X.env.locals::X.fs:=λb hb=>by
 rcases I.ok.Gm with e|⟨e,a⟩;·rw[e]at hb;exact c_ _ hb
 ·rw[e]at hb;unfold gu at hb;rw[List.filterMap_cons,a]at hb;exact hb
theorem Inv.pI(I:Inv X pins σ H s):∀b∈gu X.stack,H b=none:=λb hb=>by
 rcases List.mem_cons.mp (I.eH b hb)with e|hb;·rw[e];exact I.free
 ·obtain⟨_,o,ho,_⟩:=I.ok.eS.mem hb;exact I.base.free b o ho (I.ok.zT b hb) λz=>I.ok.nI b z hb
theorem Inv.step{g':Array GenState}{t':Nat}{d':Drawn}{ch:List Addr}(I:Inv X pins σ H s)(g:∀b∈ch,(b∈X.ex\/X.bG.heap.objs.size<=b)/\b≠X.env.locals/\(∀x c,X.env.cells.lookup x=some c->c≠b)/\∀p∈X.pn++pins,p.1≠b)(keep:∀b o,b≠X.env.locals->b∉X.fs->b∉ch->s.heap.get? b=some o->H b=none->h'.get? b=some o)(slot:∀b o,b≠X.env.locals->b∈X.fs->b∉ch->s.heap.get? b=some o->H b=none->∃sl,h'.get? b=some {o with slots:=sl})(free:∀b o,b∉ch->s.heap.get? b=some o->H b=none->H' b=none)(there:∀b o,b∉ch->s.heap.get? b=some o->∃o',h'.get? b=some o')(ny:∀b xs,H b=some (.tup xs)->H' b=some (.tup xs))(mL:∀b o u,H b=some (.uM o u)->H' b=some (.uM o u))(lL:∀b ps,H b=some (.m_ ps)->H' b=some (.m_ ps))(ns:∀m,s.heap.Ns X.env.locals m->h'.Ns X.env.locals m)(bc:fL X.prog X.w H' h')(C:AllBare g'):Inv X pins σ H' {s with heap:=h',gens:=g',drawn:=d',toks:=t'}:=by
 have y:∀b o,X.bG.heap.get? b=some o->b≠X.env.locals:=λb o e=>zQ18 (dQ (zQ05 e) I.ok.above);have j:∀b o,X.bG.heap.get? b=some o->b∉X.ex->b∉ch:=λb o e a hb=>by
  rcases(g b hb).1 with z|z;·exact a z
  ·exact absurd (dQ (zQ05 e) z) (Nat.lt_irrefl _)
 have cellK:∀x c,X.env.cells.lookup x=some c->∀v,s.heap.IsCell c v->h'.IsCell c v:=λx c e v⟨o,ho,hd⟩=>by
  have h:c∉ch:=λz=>(g c z).2.2.1 x c e rfl;by_cases hc:c∈X.fs;·obtain⟨sl,q⟩:=slot c o (I.FG x c e) hc h ho (I.cX x c e);exact⟨_,q,hd⟩
  ·exact⟨o,keep c o (I.FG x c e) hc h ho (I.cX x c e),hd⟩
 refine⟨I.ok,I.os,C,⟨λb o e n hb a=>?_,λb o e n hb a=>?_,λb o e n a=>?_,λb o e a=>?_,λb xs e=>ny b xs (I.base.ny b xs e),λb o xs e=>mL b o xs (I.base.mL b o xs e),λb ps e=>?_⟩,?_,λx c e=>?_,?_,λx c e=>?_,λp w=>?_,bc,I.len⟩;·exact keep b o (y b o e) hb (j b o e a) (I.base.keep b o e n hb a) (I.base.free b o e n a)
 ·obtain⟨sl,f⟩:=I.base.slot b o e n hb a;obtain⟨D,t⟩:=slot b _ (y b o e) hb (j b o e a) f (I.base.free b o e n a);exact⟨D,t⟩
 ·obtain⟨o',f⟩:=I.base.there b o e a;exact free b o' (j b o e a) f (I.base.free b o e n a)
 ·obtain⟨o',f⟩:=I.base.there b o e a;exact there b o' (j b o e a) f
 ·exact lL b ps (I.base.lL b ps e)
 ·obtain⟨m,hn,hl⟩:=I.loc;refine⟨m,ns m hn,λi x v f t B=>?_⟩;obtain⟨u,r,l⟩:=hl i x v f t B;refine⟨u,r,?_⟩;rcases l with l|⟨k,c,e,z⟩;·exact .inl l
  ·exact .inr ⟨k,c,e,cellK x c e _ z⟩
 ·obtain⟨v,z⟩:=I.cell x c e;exact⟨v,cellK x c e v z⟩
 ·obtain⟨m,⟨o,_,_,ho,_⟩,_⟩:=I.loc;exact free _ o (λz=>(g _ z).2.1 rfl) ho I.free
 ·obtain⟨v,o,ho,hd⟩:=I.cell x c e;exact free c o (λz=>(g c z).2.2.1 x c e rfl) ho (I.cX x c e)
 ·obtain⟨e,n,ne,A,d⟩:=I.pin p w;have h:p.1∉ch:=λz=>(g p.1 z).2.2.2 p w rfl;exact⟨keep p.1 p.2 ne A h e n,free p.1 p.2 h e n,ne,A,d⟩
theorem Inv.un{t':Nat}(I:Inv X pins σ H s)(u:Un X.fs [] H H' s.heap h')(bc:fL X.prog X.w H' h'):Inv X pins σ H' {s with heap:=h',toks:=t'}:=by obtain⟨m,⟨o,es,ep,ho,r⟩,_⟩:=id I.loc;obtain⟨sl,f⟩:=u.any ho I.free (by simp);exact I.step (g':=s.gens) (d':=s.drawn) (ch:=[]) (λ_ z=>nomatch z) (λb o _ hb _ e n=>u.keep b o e n hb (by simp)) (λb o _ hb _ e n=>u.slot b o e n hb (by simp)) (λb o _ e n=>u.free b o e n (by simp)) (λb o _ e=>u.there b o e (by simp)) u.ny u.mL u.lL (λh hm=>by obtain⟨o',d,c,a,g⟩:=hm;rw[ho]at a;cases a;exact⟨_,d,c,f,g⟩) bc I.bare
theorem Inv.call{g':Array GenState}{t':Nat}{d':Drawn}{ch:List Addr}(I:Inv X pins σ H s)(u:Un (gu X.stack) ch H H' s.heap h')(bc:fL X.prog X.w H' h')(i:AllBare g')(d:∀b∈ch,(b∈X.ex\/X.bG.heap.objs.size<=b)/\b≠X.env.locals/\(∀x c,X.env.cells.lookup x=some c->c≠b)/\∀p∈X.pn++pins,p.1≠b):Inv X pins σ H' {s with heap:=h',gens:=g',drawn:=d',toks:=t'}:=by obtain⟨m,⟨o,es,ep,ho,r⟩,_⟩:=id I.loc;obtain⟨sl,a⟩:=u.any ho I.free λz=>(d _ z).2.1 rfl;exact I.step (ch:=ch) d (λb o a hb hc e n=>u.keep b o e n (λz=>(List.mem_cons.mp (I.eH b z)).elim a hb) hc) (λb o _ _ hc e n=>u.any e n hc) (λb o hc e n=>u.free b o e n hc) (λb o hc e=>u.there b o e hc) u.ny u.mL u.lL (λk hm=>by obtain⟨o',h,g,f,j⟩:=hm;rw[ho]at f;cases f;exact⟨_,h,g,a,j⟩) bc i
theorem Inv.turned{t':Nat}{it:Addr}(I:Inv X pins σ H s)(k:∀b o,b≠it->s.heap.get? b=some o->h'.get? b=some o)(hn:H it=none)(a:it≠X.env.locals)(h1:it∈X.ex\/X.bG.heap.objs.size<=it)(h2:∀x c,X.env.cells.lookup x=some c->c≠it)(h3:∀p∈X.pn++pins,p.1≠it):Inv X pins σ H {s with heap:=h',toks:=t'}:=by
 have d:∀b u,H b=some u->b≠it:=λb u e z=>by rw[z,hn]at e;cases e
 refine I.step (g':=s.gens) (d':=s.drawn) (ch:=[it]) (λb hb=>?_) (λb o _ _ hc e _=>k b o (λz=>hc (by simp[z])) e) (λb o _ _ hc e _=>⟨o.slots,k b o (λz=>hc (by simp[z])) e⟩) (λ_ _ _ _ n=>n) (λb o hc e=>⟨o,k b o (λz=>hc (by simp[z])) e⟩) (λ_ _ e=>e) (λ_ _ _ e=>e) (λb ps e=>(by rw[e])) (λm hm=>?_) (λb u e=>?_) I.bare
 ·have e:b=it:=by simpa using hb
  subst e;exact⟨h1,a,h2,h3⟩
 ·obtain⟨o,es,ep,ho,r⟩:=hm;exact⟨o,es,ep,k _ o (Ne.symm a) ho,r⟩
 ·refine(I.bc b u e).nF (λc v hc q=>k c v ?_ q) (λ_ q=>q) λ_ _ q=>q;rcases hc with z|z;·rw[z];exact d b u e
  ·exact d c _ z
theorem Inv.tok(I:Inv X pins σ H s)(t:Nat):Inv X pins σ H {s with toks:=t}:=I.un (h':=s.heap) (t':=t) Un.refl I.bc
theorem Inv.kept{t':Nat}(I:Inv X pins σ H s)(k:∀b u,s.heap.get? b=some u->h'.get? b=some u):Inv X pins σ H {s with heap:=h',toks:=t'}:=I.un (Un.kept k) (I.bc.kept k)
theorem Inv.laid{a:Addr}{o:HO}{t':Nat}(I:Inv X pins σ H s)(k:∀b u,s.heap.get? b=some u->h'.get? b=some u)(c:s.heap.objs.size<=a)(new:bC X.prog X.w (upd H a o) h' a o):Inv X pins σ (upd H a o) {s with heap:=h',toks:=t'}:=I.un (Un.laid k c (I.bc.fresh c)) (I.bc.laid k c new)
theorem Inv.write{x e:Addr}{o:HO}{t':Nat}(I:Inv X pins σ H s)(c:MY (H x))(he:e=x\/H e=some (.own x))(k:∀b u,b≠e->s.heap.get? b=some u->h'.get? b=some u)(a:∃u,h'.get? e=some u)(new:bC X.prog X.w (upd H x o) h' x o):Inv X pins σ (upd H x o) {s with heap:=h',toks:=t'}:=I.un (Un.write c he k a) (I.bc.write c he k a new)
theorem Inv.weak{a:List (Option V)}(I:Inv X pins σ H s)(hl:a.length=σ.length)(w:∀(i:Nat)v,a[i]?=some (some v)->σ[i]?=some (some v)):Inv X pins a H s:=⟨I.ok,I.os,I.bare,I.base,let⟨m,hn,e⟩:=I.loc;⟨m,hn,λi x v b c d=>e i x v b (w i v c) d⟩,I.cell,I.free,I.cX,I.pin,I.bc,hl.trans I.len⟩
theorem Inv.k6{a:List (Addr×Obj)}(I:Inv X pins σ H s)(h:∀p∈a,s.heap.get? p.1=some p.2/\H p.1=none/\p.1≠X.env.locals/\p.1∉X.fs/\∀v,p.2.data≠ .cell v):Inv X a σ H s:=⟨I.ok,I.os,I.bare,I.base,I.loc,I.cell,I.free,I.cX,λp b=>(List.mem_append.mp b).elim (λz=>I.pin p (jy _ z)) (h p),I.bc,I.len⟩
theorem tm{N:List Str}(e:N.Nodup){i j:Nat}{x:Str}(a:N[i]?=some x)(b:N[j]?=some x):i=j:=by obtain⟨h1,c⟩:=List.getElem?_eq_some_iff.mp a;obtain⟨h2,d⟩:=List.getElem?_eq_some_iff.mp b;exact(List.getElem_inj e).mp (c.trans d.symm)
theorem oz{M:Model}{A:Around}{E:Value->Shared->Prop}{i:Nat}{x:Str}{v:V}{u:Value}{Q:Unit->Shared->Prop}(I:Inv X pins σ H s)(O:X.N.Nodup)(hi:X.N[i]?=some x)(l:Loc X.env.scope x)(r:RelV v u)(h:∀s',Inv X pins (σ.set i (some v)) H s'->(∃a,Heap.SameBut a s.heap s'.heap/\(a=X.env.locals\/X.env.cells.lookup x=some a))->Q () s')(Y:X.fn x=true\/X.env.scope.names.lookup x=some .local:=by first|exact .inl rfl|exact .inr rfl|assumption):wpAny M A (storeName X.env x u) Q E s:=by
 obtain⟨m,hn,hl⟩:=id I.loc;have W:(X.env.scope.kind== .class||(X.env.scope.kind== .module&&X.env.locals !=X.env.globals))=false:=by rw[I.ok.kind];rfl
 have T:i<σ.length:=by rw[I.len];exact(List.getElem?_eq_some_iff.mp hi).1
 have FG:=I.FG;have tracked:∀{a:Addr}{h':Heap},(∃o,s.heap.get? a=some o/\H a=none)->Heap.SameBut a s.heap h'->fL X.prog X.w H h':=λ{a h'}ha f b ob e=>by
  obtain⟨_,_,S⟩:=ha;refine(I.bc b ob e).nF (λc C hc q=>(f.2 c ?_).trans q) (λ_ q=>q) λ_ _ q=>q;rintro rfl;rcases hc with rfl|hc;·rw[S]at e;cases e
  ·rw[S]at hc;cases hc
 rcases l with w|w
 ·refine wpAny_storeName_local w hn (λh' hn' f=>?_) W;obtain⟨oL,_,_,Z,_⟩:=id hn;refine h _ ⟨I.ok,I.os,I.bare,⟨λb o e n hb l=>?_,λb o e n hb l=>?_,I.base.free,λb o e l=>?_,I.base.ny,I.base.mL,I.base.lL⟩,⟨_,hn',λj y N g t D=>?_⟩,λy c e=>?_,I.free,I.cX,λp G=>?_,tracked ⟨oL,Z,I.free⟩ f,by simpa using I.len⟩ ⟨_,f, .inl rfl⟩;·exact(f.2 b (zQ18 (dQ (zQ05 e) I.ok.above))).trans (I.base.keep b o e n hb l)
  ·obtain⟨sl,g⟩:=I.base.slot b o e n hb l;exact⟨sl,(f.2 b (zQ18 (dQ (zQ05 e) I.ok.above))).trans g⟩
  ·obtain⟨o',g⟩:=I.base.there b o e l;exact⟨o',(f.2 b (zQ18 (dQ (zQ05 e) I.ok.above))).trans g⟩
  ·by_cases hj:j=i;·subst hj;rw[hi]at g;cases g;rw[List.getElem?_set_self T]at t;cases t;exact⟨u,r, .inl ⟨w,by simp⟩⟩
   ·rw[List.getElem?_set_ne (Ne.symm hj)]at t;obtain⟨L,K,q⟩:=hl j y N g t D;refine⟨L,K,?_⟩;rcases q with⟨k,e⟩|⟨k,c,e,z⟩;·refine .inl ⟨k,?_⟩;have :y≠x:=λe=>hj (tm O g (e▸hi));simp[this,e]
    ·exact .inr ⟨k,c,e,z.sameBut f (FG y c e)⟩
  ·obtain⟨C,z⟩:=I.cell y c e;exact⟨C,z.sameBut f (FG y c e)⟩
  ·obtain⟨e,n,ne,J,d⟩:=I.pin p G;exact⟨(f.2 p.1 ne).trans e,n,ne,J,d⟩
 ·have F:X.fn x=true:=by
   rcases Y with z|z;·exact z
   ·rw[z]at w;cases w
  obtain⟨c,hc⟩:=I.ok.has x (.inl w);obtain⟨C,z⟩:=I.cell x c hc;refine wpAny_storeName_cell I.ok.kind w hc z (λh' P f=>?_);obtain⟨oc,U,Qm⟩:=id z;refine h {s with heap:=h'} ⟨I.ok,I.os,I.bare,⟨λb o e n hb l=>?_,λb o e n hb l=>?_,I.base.free,λb o e l=>?_,I.base.ny,I.base.mL,I.base.lL⟩,⟨m,hn.sameBut f (Ne.symm (FG x c hc)),λj y N g t D=>?_⟩,λy B e=>?_,I.free,I.cX,λp G=>?_,tracked ⟨oc,U,I.cX x c hc⟩ f,by simpa using I.len⟩ ⟨c,f, .inr hc⟩;·exact(f.2 b (zQ18 (dQ (zQ05 e) (I.ok.C7 x c F hc)))).trans (I.base.keep b o e n hb l)
  ·obtain⟨sl,g⟩:=I.base.slot b o e n hb l;exact⟨sl,(f.2 b (zQ18 (dQ (zQ05 e) (I.ok.C7 x c F hc)))).trans g⟩
  ·obtain⟨o',g⟩:=I.base.there b o e l;exact⟨o',(f.2 b (zQ18 (dQ (zQ05 e) (I.ok.C7 x c F hc)))).trans g⟩
  ·by_cases hj:j=i;·subst hj;rw[hi]at g;cases g;rw[List.getElem?_set_self T]at t;cases t;exact⟨u,r, .inr ⟨.inl w,c,hc,P⟩⟩
   ·rw[List.getElem?_set_ne (Ne.symm hj)]at t;obtain⟨L,K,q⟩:=hl j y N g t D;refine⟨L,K,?_⟩;rcases q with q|⟨k,B,e,z'⟩;·exact .inl q
    ·refine .inr ⟨k,B,e,z'.sameBut f ?_⟩;rintro rfl;exact hj (tm O g (I.ok.inj _ _ _ e hc▸hi))
  ·by_cases R:B=c;·subst R;exact⟨_,P⟩
   ·obtain⟨w2,z2⟩:=I.cell y B e;exact⟨w2,z2.sameBut f R⟩
  ·obtain⟨e,n,ne,J,d⟩:=I.pin p G;refine⟨(f.2 p.1 ?_).trans e,n,ne,J,d⟩;intro q;rw[q,U]at e;have q':oc=p.2:=Option.some.inj e;exact d C (by rw[<-q'];exact Qm)
theorem iZ{M:Model}{A:Around}{E:Value->Shared->Prop}{i:Nat}{x:Str}{v:V}{u:Value}{Q:Unit->Shared->Prop}(I:Inv X pins σ H s)(b:X.N.Nodup)(hi:X.N[i]?=some x)(d:Loc X.env.scope x)(r:RelV v u)(h:∀s',Inv X pins (σ.set i (some v)) H s'->Q () s')(c:X.fn x=true\/X.env.scope.names.lookup x=some .local:=by first|exact .inl rfl|exact .inr rfl|assumption):wpAny M A (storeName X.env x u) Q E s:=oz I b hi d r (λs' a _=>h s' a) c
theorem Inv.BB{s':Shared}{ch:List Addr}(I:Inv X pins σ H s)(ho:s'.os=s.os)(u:Un (gu X.stack) ch H H' s.heap s'.heap)(bc:fL X.prog X.w H' s'.heap)(d:AllBare s'.gens)(a:∀b∈ch,(b∈X.ex\/X.bG.heap.objs.size<=b)/\b≠X.env.locals/\(∀x c,X.env.cells.lookup x=some c->c≠b)/\∀p∈X.pn++pins,p.1≠b):Inv X pins σ H' s':=by obtain⟨h',g',d',t',o'⟩:=s';have e:o'=s.os:=ho;subst e;exact I.call (g':=g') (t':=t') (d':=d') u bc d a
end
noncomputable abbrev XK:=Value->Option Addr->Hp->Prop
noncomputable abbrev St:=List (Option V)
noncomputable abbrev VK:=V->Hp->Prop
noncomputable abbrev TE:=St->Hp->VK->Prop
noncomputable abbrev TT:=St->Hp->(Bool->Hp->Prop)->Prop
noncomputable abbrev TA:=St->Hp->(List V->Hp->Prop)->Prop
structure Ends where
 nx:St->Hp->Prop
 rt:VK
 bk:St->Hp->Prop:=λ_ _=>False
 ct:St->Hp->Prop:=λ_ _=>False
noncomputable abbrev TS:=Ends->St->Hp->Prop
def EP(X:Cx)(pins:List (Addr×Obj))(σ:St)(Q:VK)(u:Value)(s':Shared):Prop:=∃v H',Inv X pins σ H' s'/\RelV v u/\Q v H'
def TP(X:Cx)(pins:List (Addr×Obj))(σ:St)(Q:Bool->Hp->Prop)(b:Bool)(s':Shared):Prop:=∃H',Inv X pins σ H' s'/\Q b H'
def AP(X:Cx)(pins:List (Addr×Obj))(σ:St)(Q:List V->Hp->Prop)(us:List Value)(s':Shared):Prop:=∃vs H',Inv X pins σ H' s'/\Vals vs us/\Q vs H'
noncomputable def SP(X:Cx)(pins:List (Addr×Obj))(D:Ends)(f:Flow)(s':Shared):Prop:=match f with| .next=>∃a H',Inv X pins a H' s'/\D.nx a H'| .brk=>∃a H',Inv X pins a H' s'/\D.bk a H'| .cont=>∃a H',Inv X pins a H' s'/\D.ct a H'| .ret u=>∃v a H',Inv X pins a H' s'/\RelV v u/\D.rt v H'
noncomputable def PE(X:Cx)(e:Expr)(t:TE):Prop:=∀(pins:List (Addr×Obj))(s:Shared)(σ:St)(H:Hp)(Q:VK),Inv X pins σ H s->t σ H Q->wpAny (model X.prog X.w) X.A (eval e X.env) (EP X pins σ Q) X.xe s
noncomputable def PT(X:Cx)(e:Expr)(t:TT):Prop:=∀(pins:List (Addr×Obj))(s:Shared)(σ:St)(H:Hp)(Q:Bool->Hp->Prop),Inv X pins σ H s->t σ H Q->wpAny (model X.prog X.w) X.A (isTrue e X.env (eval e X.env)) (TP X pins σ Q) X.xe s
noncomputable def PW(X:Cx)(e:Expr)(t:TT):Prop:=∀(whole:Sem Value)(pins:List (Addr×Obj))(s:Shared)(σ:St)(H:Hp)(Q:Bool->Hp->Prop),Inv X pins σ H s->t σ H Q->wpAny (model X.prog X.w) X.A (isTrue e X.env whole) (TP X pins σ Q) X.xe s
theorem PW.pt{X:Cx}{e:Expr}{t:TT}(h:PW X e t):PT X e t:=h _
noncomputable def PA(X:Cx)(es:List Expr)(t:TA):Prop:=∀(a:Pos)(pins:List (Addr×Obj))(s:Shared)(σ:St)(H:Hp)(Q:List V->Hp->Prop),Inv X pins σ H s->t σ H Q->wpAny (model X.prog X.w) X.A (spliced (backTo a (starEach es X.env))) (AP X pins σ Q) X.xe s
noncomputable def PS(X:Cx)(st:Stmt)(t:TS):Prop:=∀(pins:List (Addr×Obj))(s:Shared)(σ:St)(H:Hp)(D:Ends),Inv X pins σ H s->t D σ H->wpAny (model X.prog X.w) X.A (exec st X.env) (SP X pins D) X.xe s
noncomputable def fY(X:Cx)(st:List Stmt)(t:TS):Prop:=∀(pins:List (Addr×Obj))(s:Shared)(σ:St)(H:Hp)(D:Ends),Inv X pins σ H s->t D σ H->wpAny (model X.prog X.w) X.A (execs st X.env) (SP X pins D) X.xe s
theorem bw{c:Type}{t:Sem c}{Q b:c->Shared->Prop}{M:Model}{A:Around}{E:Value->Shared->Prop}{s:Shared}(h:wpAny M A t Q E s)(d:∀a s,Q a s->b a s):wpAny M A t b E s:=d9 h d λ_ _ x=>x
section
variable{X:Cx}
noncomputable def Kw(i:Nat):TE:=λσ H Q=>∃v,σ[i]?=some (some v)/\Q v H
noncomputable def tC(v:V):TE:=λ_ H Q=>Q v H
theorem B1{i:Nat}{x:Str}{g:Pos}(d:X.N[i]?=some x)(hv:Ml X.env.scope x)(hd:(x==("__debug__":Str))=false:=by decide)(f:(x==("__classdict__":Str))=false:=by decide):PE X (.Name x g) (Kw i):=by
 intro pins s σ H Q I h;obtain⟨v,e,h⟩:=h;obtain⟨m,hn,hl⟩:=I.loc;obtain⟨u,r,l⟩:=hl i x v d e hv;have fin:EP X pins σ Q u s:=⟨v,H,I,r,h⟩;rcases l with⟨a,hm⟩|⟨a,c,hc,b⟩;·exact wpAny_Name (wpAny_loadName_local I.ok.kind a hn hm fin) hd
 ·rcases a with a|a;·exact wpAny_Name (wpAny_loadName_cell I.ok.kind a hc b fin) hd
  ·exact wpAny_Name (wpAny_loadName_free I.ok.kind a hc b fin f) hd
theorem ag{i j a}:PE X (.Constant (.int i) j a) (tC (.int i)):=λ_ _ _ H _ I h=>wpAny_Constant_int ⟨.int i,H,I.tok _,⟨_,rfl⟩,h⟩
theorem nX{b j a}:PE X (.Constant (.bool b) j a) (tC (.bl b)):=λ_ _ _ H _ I h=>Constant_bool ⟨.bl b,H,I,rfl,h⟩
theorem IS{j a}:PE X (.Constant .none j a) (tC .a_):=λ_ _ _ H _ I h=>Constant_none ⟨.a_,H,I,rfl,h⟩
theorem ai{x j a}:PE X (.Constant (.str x) j a) (tC (.str x)):=λ_ _ _ H _ I h=>Calls.Constant_str ⟨.str x,H,I.tok _,⟨_,rfl⟩,h⟩
def Gl(X:Cx)(x:Str):Prop:=X.env.kindOf x=some .globalImplicit
theorem iK{E:Value->Shared->Prop}{pins:List (Addr×Obj)}{s:Shared}{σ:St}{H:Hp}{x:Str}{u:Value}{b:Pos}{Q:Value->Shared->Prop}(I:Inv X pins σ H s)(a:Gl X x)(hm:X.mg x=some u)(h:Q u s)(hd:(x==("__debug__":Str))=false:=by decide):wpAny (model X.prog X.w) X.A (eval (.Name x b) X.env) Q E s:=Calls.Name_function_global I.ok.kind a (Calls.loadGlobal_global (by rw[I.ok.glob];exact I.mod.glob.keeps I.bk) hm h) hd
theorem f6{E:Value->Shared->Prop}{pins:List (Addr×Obj)}{s:Shared}{σ:St}{H:Hp}{x:Str}{u:Value}{b:Pos}{Q:Value->Shared->Prop}(I:Inv X pins σ H s)(a:Gl X x)(hm:X.mg x=none)(hv:bootBuiltins x=some u)(h:Q u s)(hn:x≠"__name__":=by decide)(hd:(x==("__debug__":Str))=false:=by decide):wpAny (model X.prog X.w) X.A (eval (.Name x b) X.env) Q E s:=by obtain⟨mb,h1,h2⟩:=I.mod.blt;exact Calls.Name_function_global I.ok.kind a (Calls.loadGlobal_builtin (by rw[I.ok.glob];exact I.mod.glob.keeps I.bk) hm (by rw[I.ok.blt];exact h1.keeps I.bk) ((h2 x hn).trans hv) h) hd
theorem wC{x:Str}{v:V}{u:Value}{b:Pos}(a:Gl X x)(hm:X.mg x=some u)(r:RelV v u)(hd:(x==("__debug__":Str))=false:=by decide):PE X (.Name x b) (tC v):=λ_ _ _ H _ I h=>iK I a hm ⟨v,H,I,r,h⟩ hd
theorem DS{x:Str}{v:V}{u:Value}{b:Pos}(a:Gl X x)(hm:X.mg x=none)(hv:bootBuiltins x=some u)(r:RelV v u)(hn:x≠"__name__":=by decide)(hd:(x==("__debug__":Str))=false:=by decide):PE X (.Name x b) (tC v):=λ_ _ _ H _ I h=>f6 I a hm hv ⟨v,H,I,r,h⟩ hn hd
variable{a b:Expr}{ta tb:TE}{pos:Pos}
noncomputable def PC(X:Cx)(op:CmpOp)(a b:Expr)(t:TE):Prop:=∀(pins:List (Addr×Obj))(s:Shared)(σ:St)(H:Hp)(Q:VK),Inv X pins σ H s->t σ H Q->wpAny (model X.prog X.w) X.A (eval a X.env) (λv s₁=>wpAny (model X.prog X.w) X.A (eval b X.env) (λu s₂=>wpAny (model X.prog X.w) X.A (compareOp op v u) (EP X pins σ Q) X.xe s₂) X.xe s₁) X.xe s
noncomputable def tB(t:TE):TT:=λσ H Q=>t σ H λx d=>∃c,x= .bl c/\Q c d
theorem Ah{op:CmpOp}{t:TE}(h:PC X op a b t)(h1:behindInMarks op b=false:=by first|exact i _ (by decide) (by decide)|rfl):PT X (.Compare a [op] [b] pos) (tB t):=by intro pins s σ H Q I hw;refine wpAny_isTrue_Compare1 (bw (h pins s σ H _ I hw) λv s1 h1=>bw h1 λu s2 h2=>bw h2 λc j g=>?_) h1;obtain⟨x,e,f,r1,q1⟩:=g;obtain⟨d,rfl,q⟩:=q1;cases r1;exact wpAny_truthy_bool ⟨e,f,q⟩
theorem gb{e:Expr}{t:TE}(h:PE X e t)(he:∀whole,isTrue e X.env whole=(do let v<-whole;standAt e.pos;holding [v] (truthy v)):=by intro _;rfl):PT X e (tB t):=by intro pins s σ H Q I hw;refine isTrue_plain (bw (h pins s σ H _ I hw) λv s1 g=>?_) (he _);obtain⟨x,c,f,r1,q1⟩:=g;obtain⟨d,rfl,q⟩:=q1;cases r1;exact wpAny_truthy_bool ⟨c,f,q⟩
variable{tA SA:TT}{rest:List Expr}
noncomputable def UO(t u:TT):TT:=λσ H Q=>t σ H λc d=>if c=true then Q true d else u σ d Q
noncomputable def QW(t:TT):TT:=λσ H Q=>t σ H λc d=>Q (!c) d
theorem mE(ha:PT X a tA):PW X (.BoolOp .Or [a] pos) tA:=by intro d pins s σ H Q I h;refine isTrue_or (bw (ha pins s σ H Q I h) λc s1 e=>?_);cases c with|false=>exact isTrue_or_nil e|true=>exact e
theorem uw(ha:PT X a tA)(hb:PW X (.BoolOp .Or (b::rest) pos) SA):PW X (.BoolOp .Or (a::b::rest) pos) (UO tA SA):=by intro f pins s σ H Q I h;refine isTrue_or (bw (ha pins s σ H _ I h) λc s1 g=>?_);obtain⟨d,e,q1⟩:=g;cases c with|true=>exact⟨d,e,q1⟩|false=>exact hb f pins s1 σ d Q e q1
theorem ma(ha:PT X a tA):PT X (.UnaryOp .Not a pos) (QW tA):=by intro pins s σ H Q I h;exact isTrue_not (ha pins s σ H (λc d=>Q (!c) d) I h)
noncomputable def KI(ta tb:TE):TE:=λσ H Q=>ta σ H λx d=>∃c,x= .bl c/\if c=true then tb σ d Q else Q (.bl false) d
theorem IV{op}{t:TE}(h:PE X a t):PE X (.BoolOp op [a] pos) t:=λpins s σ H Q I hw=>BoolOp_one (h pins s σ H Q I hw)
theorem HW(ha:PE X a ta)(hb:PE X (.BoolOp .And (b::rest) pos) tb):PE X (.BoolOp .And (a::b::rest) pos) (KI ta tb):=by intro pins s σ H Q I h;refine BoolOp_and (bw (ha pins s σ H _ I h) λv s1 f=>?_);obtain⟨x,d,e,r1,q1⟩:=f;obtain⟨c,rfl,q1⟩:=q1;cases r1;refine wpAny_truthy_bool ?_;cases c with|true=>exact hb pins s1 σ d Q e q1|false=>exact⟨.bl false,d,e,rfl,q1⟩
noncomputable def VM(t:TT)(ta tb:TE):TE:=λσ H Q=>t σ H λc d=>if c=true then ta σ d Q else tb σ d Q
theorem fZ{c:Expr}(hc:PT X c tA)(ha:PE X a ta)(hb:PE X b tb):PE X (.IfExp c a b pos) (VM tA ta tb):=by intro pins s σ H Q I h;refine wpAny_IfExp (bw (hc pins s σ H _ I h) λd s1 g=>?_);obtain⟨e,f,q1⟩:=g;cases d with|true=>exact ha pins s1 σ e Q f q1|false=>exact hb pins s1 σ e Q f q1
end
noncomputable def bO(K:PySem.W.Frag)(H:Hp)(a:Addr)(xs:List V):Prop:=Rd H a (.lst xs)\/∃(o:Obj)(b:Array Value)(n:Nat),K.lookup a=some o/\o.cls= .type "list"/\o.dict=none/\o.data= .seq b n/\b.size<=sizeLine/\Vals xs b.toList
noncomputable def d8(K:PySem.W.Frag)(H:Hp)(a:Addr)(xs:List V):Prop:=Rd H a (.tup xs)\/∃(o:Obj)(b:Array Value)(n:Nat),K.lookup a=some o/\o.cls= .type "tuple"/\o.data= .seq b n/\b.size<=sizeLine/\Vals xs b.toList
noncomputable def PJ:Value->Option V| .none=>some .a_| .bool b=>some (.bl b)| .int i _=>some (.int i)| .str x _=>some (.str x)| .bytes b _=>some (.zN b)| .float b _=>some (.IP b)| .ref a=>some (.ref a)| .type n=>some (.ty n)|_=>none
theorem RelV.abs{x:V}{u:Value}(r:RelV x u):PJ u=some x:=by cases x with|a_=>cases r;rfl|bl _=>cases r;rfl|int _=>obtain⟨t,rfl⟩:=r;rfl|str _=>obtain⟨t,rfl⟩:=r;rfl|zN _=>obtain⟨t,rfl⟩:=r;rfl|IP _=>obtain⟨t,rfl⟩:=r;rfl|ref _=>cases r;rfl|ty _=>cases r;rfl
theorem RelV.inj{x y:V}{u:Value}(r:RelV x u)(q:RelV y u):x=y:=Option.some.inj (r.abs.symm.trans q.abs)
theorem Vals.inj:∀{xs a:List V}{us:List Value},Vals xs us->Vals a us->xs=a|_,_,_, .nil, .nil=>rfl|_,_,_, .cons r t, .cons b t'=>by rw[r.inj b,Vals.inj t t']
section
variable{X:Cx}{pins:List (Addr×Obj)}{σ:St}{H:Hp}{s:Shared}{a:Addr}{xs ys:List V}
theorem bO.of{K:PySem.W.Frag}(h:H a=some (.lst xs)):bO K H a xs:= .inl (.inl h)
theorem d8.of{K:PySem.W.Frag}(h:H a=some (.tup xs)):d8 K H a xs:= .inl (.inl h)
theorem Inv.list(I:Inv X pins σ H s)(h:bO X.K H a xs):∃b:List Value,Vals xs b/\PlainL s.heap a b.toArray/\xs.length<=sizeLine:=by
 rcases h with h|⟨o,b,n,c,hc,hd,d,f,r⟩;·obtain⟨z,b,n,r,e⟩:=h.ok I.bc;exact⟨b,r,⟨_,n,e,rfl,rfl,rfl⟩,z⟩
 ·refine⟨b.toList,r,⟨o,n,I.jo a o c,hc,hd,by simpa using d⟩,?_⟩;have e:=r.length;simp only[Array.length_toList]at e;lia
theorem Inv.tuple(I:Inv X pins σ H s)(h:d8 X.K H a xs):∃b:List Value,Vals xs b/\IsTup s.heap a b.toArray/\xs.length<=sizeLine:=by
 rcases h with h|⟨o,b,n,c,hc,d,f,r⟩;·obtain⟨z,b,r,p⟩:=h.ok I.bc;exact⟨b,r,p,z⟩
 ·refine⟨b.toList,r,⟨o,I.jo a o c,hc,n,by simpa using d⟩,?_⟩;have e:=r.length;simp only[Array.length_toList]at e;lia
theorem Inv.md(I:Inv X pins σ H s)(h:bO X.K H a xs)(h':bO X.K H a ys):xs=ys:=by
 obtain⟨c,r,⟨o,n,e,_,_,d⟩,_⟩:=I.list h;obtain⟨its',f,⟨o',g,b,_,_,d'⟩,_⟩:=I.list h';rw[e]at b;cases b;rw[d]at d';injection d' with d1 _;have :c=its':=by simpa using congrArg Array.toList d1
 subst this;exact r.inj f
theorem Inv.zI(I:Inv X pins σ H s)(h:d8 X.K H a xs)(h':d8 X.K H a ys):xs=ys:=by
 obtain⟨c,r,⟨o,e,_,n,d⟩,_⟩:=I.tuple h;obtain⟨its',f,⟨o',b,_,g,d'⟩,_⟩:=I.tuple h';rw[e]at b;cases b;rw[d]at d';injection d' with d1 _;have :c=its':=by simpa using congrArg Array.toList d1
 subst this;exact r.inj f
end
noncomputable abbrev Cx.nE(X:Cx)(E:Value->Shared->Prop):Cx:={X with xe:=E}
noncomputable abbrev Cx.Ez(X:Cx):Cx:=X.nE λ_ _=>False
theorem Cx.Ok.nE{X:Cx}(ok:X.Ok)(E:Value->Shared->Prop):(X.nE E).Ok:=⟨ok.mod,ok.kind,ok.glob,ok.blt,ok.above,ok.inj,ok.has,ok.C7,ok.hd,ok.frames,ok.Gm,ok.GF,ok.bs,ok.uF,ok.mS,ok.nI,ok.eS,ok.zT⟩
theorem Cx.Ok.fX{X:Cx}{E:Value->Shared->Prop}(ok:(X.nE E).Ok):X.Ok:=⟨ok.mod,ok.kind,ok.glob,ok.blt,ok.above,ok.inj,ok.has,ok.C7,ok.hd,ok.frames,ok.Gm,ok.GF,ok.bs,ok.uF,ok.mS,ok.nI,ok.eS,ok.zT⟩
section
variable{X:Cx}{pins:List (Addr×Obj)}{σ:St}{H:Hp}{s:Shared}{E:Value->Shared->Prop}
theorem Inv.nE(I:Inv X pins σ H s)(E:Value->Shared->Prop):Inv (X.nE E) pins σ H s:=⟨I.ok.nE E,I.os,I.bare,I.base,I.loc,I.cell,I.free,I.cX,I.pin,I.bc,I.len⟩
theorem Inv.fX(I:Inv (X.nE E) pins σ H s):Inv X pins σ H s:=⟨I.ok.fX,I.os,I.bare,I.base,I.loc,I.cell,I.free,I.cX,I.pin,I.bc,I.len⟩
theorem SP.fX{D:Ends}{f:Flow}{s':Shared}(h:SP (X.nE E) pins D f s'):SP X pins D f s':=by cases f with|next=>obtain⟨a,H',I,q⟩:=h;exact⟨a,H',I.fX,q⟩|brk=>obtain⟨a,H',I,q⟩:=h;exact⟨a,H',I.fX,q⟩|cont=>obtain⟨a,H',I,q⟩:=h;exact⟨a,H',I.fX,q⟩|ret u=>obtain⟨v,a,H',I,r,q⟩:=h;exact⟨v,a,H',I.fX,r,q⟩
theorem fY.Ez{st:List Stmt}{t:TS}(h:fY X.Ez st t):fY X st t:=λpins s σ H D I hw=>d9 (h pins s σ H D (I.nE _) hw) (λ_ _ q=>q.fX) λ_ _ z=>False.elim z
end
section
variable{X:Cx}{st:Stmt}{rest:List Stmt}{t u:TS}{e:Expr}{te:TE}{pos:Pos}
noncomputable def Ny:TS:=λD σ H=>D.nx σ H
noncomputable def cy(t u:TS):TS:=λD σ H=>t {D with nx:=u D} σ H
theorem aY:fY X [] Ny:=λ_ _ σ H _ I h=>wpAny_execs_nil ⟨σ,H,I,h⟩
theorem ar(h1:PS X st t)(h2:fY X rest u):fY X (st::rest) (cy t u):=by intro pins s σ H D I h;refine wpAny_execs_cons (bw (h1 pins s σ H {D with nx:=u D} I h) λf s1 q=>?_);cases f with|next=>obtain⟨b,H',a,q⟩:=q;exact h2 pins s1 b H' D a q|ret v=>exact q|brk=>exact q|cont=>exact q
theorem aq(h1:PS X st t):fY X [st] t:=by intro pins s σ H D I h;refine wpAny_execs_cons (bw (h1 pins s σ H D I h) λf s1 q=>?_);cases f with|next=>exact wpAny_execs_nil q|ret v=>exact q|brk=>exact q|cont=>exact q
theorem Inv.quiet{pins:List (Addr×Obj)}{σ:St}{H:Hp}{s:Shared}(I:Inv X pins σ H s):interactive X.env=false:=by simp[interactive,I.ok.kind]
noncomputable def K7(te:TE):TS:=λD σ H=>te σ H λ_ a=>D.nx σ a
theorem qd(he:PE X e te)(c:swapsWith e none pos.line X.env=pure false:=by rfl):PS X (.Expr e pos) (K7 te):=by intro pins s σ H D I h;exact wpAny_Expr_any (bw (he pins s σ H _ I h) λv s1⟨x,a,b,r1,q1⟩=>⟨σ,a,b,q1⟩) I.quiet c
noncomputable def QF(te:TE):TS:=λD σ H=>te σ H D.rt
theorem aF(he:PE X e te):PS X (.Return (some e) pos) (QF te):=by intro pins s σ H D I h;exact wpAny_Return_some (bw (he pins s σ H _ I h) λv s1⟨x,a,b,r1,q1⟩=>⟨x,σ,a,b,r1,q1⟩)
noncomputable def OP(c:TT)(t u:TS):TS:=λD σ H=>c σ H λb a=>if b=true then t D σ a else u D σ a
theorem bH{c:Expr}{a b:List Stmt}{i:TT}(hc:PT X c i)(ha:fY X a t)(hb:fY X b u):PS X (.If c a b pos) (OP i t u):=by intro pins s σ H D I h;refine wpAny_If (bw (hc pins s σ H _ I h) λd s1 j=>?_);obtain⟨f,g,q1⟩:=j;cases d with|true=>exact ha pins s1 σ f D g q1|false=>exact hb pins s1 σ f D g q1
end
noncomputable abbrev TG:=V->St->Hp->(St->Hp->Prop)->Prop
noncomputable abbrev JE:=List V->St->Hp->(St->Hp->Prop)->Prop
noncomputable def PG(X:Cx)(target:Expr)(t:TG):Prop:=∀(pins:List (Addr×Obj))(s:Shared)(σ:St)(H:Hp)(v:V)(u:Value)(Q:St->Hp->Prop),Inv X pins σ H s->RelV v u->t v σ H Q->wpAny (model X.prog X.w) X.A (assign target X.env u) (λ_ s'=>∃a H',Inv X pins a H' s'/\Q a H') X.xe s
noncomputable def wN(X:Cx)(ts:List Expr)(t:JE):Prop:=∀(pins:List (Addr×Obj))(s:Shared)(σ:St)(H:Hp)(vs:List V)(us:List Value)(Q:St->Hp->Prop),Inv X pins σ H s->Vals vs us->t vs σ H Q->wpAny (model X.prog X.w) X.A (assignInOrder ((assignEach ts X.env).map (·.2)) us) (λ_ s'=>∃a H',Inv X pins a H' s'/\Q a H') X.xe s
noncomputable abbrev Hz:=V->V->V->Hp->(Hp->Prop)->Prop
noncomputable def L4(X:Cx)(t:Hz):Prop:=∀(pins:List (Addr×Obj))(s:Shared)(σ:St)(H:Hp)(o i v:V)(b a u:Value)(Q:Hp->Prop),Inv X pins σ H s->RelV o b->RelV i a->RelV v u->t o i v H Q->wpAny (model X.prog X.w) X.A (setItem b a u) (λ_ s'=>∃H',Inv X pins σ H' s'/\Q H') X.xe s
noncomputable abbrev Of:=V->V->Hp->VK->Prop
noncomputable def R_(X:Cx)(op:Operator)(t:Of):Prop:=∀(pins:List (Addr×Obj))(s:Shared)(σ:St)(H:Hp)(x y:V)(v u:Value)(Q:VK),Inv X pins σ H s->RelV x v->RelV y u->t x y H Q->wpAny (model X.prog X.w) X.A (inplaceOp op v u) (EP X pins σ Q) X.xe s
section
variable{X:Cx}{pos:Pos}
noncomputable def jY(i:Nat):TG:=λv σ H Q=>Q (σ.set i (some v)) H
theorem cM{i:Nat}{x:Str}(b:X.N.Nodup)(hi:X.N[i]?=some x)(d:Loc X.env.scope x)(c:X.fn x=true\/X.env.scope.names.lookup x=some .local:=by first|exact .inl rfl|exact .inr rfl|assumption):PG X (.Name x pos) (jY i):=by intro pins s σ H v u Q I r h;exact wpAny_assign_Name (iZ I b hi d r (λs' a=>⟨_,H,a,h⟩) c)
noncomputable def L6:JE:=λvs σ H Q=>vs=[]/\Q σ H
noncomputable def Ak(t:TG)(u:JE):JE:=λvs σ H Q=>∃v r,vs=v::r/\t v σ H λa H'=>u r a H' Q
theorem wj:wN X [] L6:=by intro pins s σ H vs us Q I r h;obtain⟨e,h⟩:=h;subst e;cases r;exact assignInOrder_nil ⟨σ,H,I,h⟩
theorem jn{e:Expr}{es:List Expr}{t:TG}{u:JE}(h1:PG X e t)(h2:wN X es u)(d:(assignEach (e::es) X.env).map (·.2)=assign e X.env::(assignEach es X.env).map (·.2):=by rfl):wN X (e::es) (Ak t u):=by intro pins s σ H vs us Q I r h;obtain⟨v,j,c,h⟩:=h;subst c;cases r with|cons r f=>rw[d];refine assignInOrder_cons (bw (h1 pins s σ H _ _ _ I r h) λ_ s1 g=>?_);obtain⟨i,a,b,q1⟩:=g;exact h2 pins s1 i a _ _ Q b f q1
noncomputable def Mc(K:PySem.W.Frag)(n:Nat)(t:JE):TG:=λv σ H Q=>∃a xs,v= .ref a/\d8 K H a xs/\xs.length=n/\t xs σ H Q
theorem Bn{es:List Expr}{k:Nat}{t:JE}{n:Nat}(hc:X.calm=true)(h:wN X es t)(hn:(assignEach es X.env).length=n:=by rfl)(g:(assignEach es X.env).findIdx? (·.1)=none:=by rfl):PG X (.Tuple es k pos) (Mc X.K n t):=by intro pins s σ H v u Q I r hw;obtain⟨a,xs,f,hq,hl,hw⟩:=hw;subst f;cases r;obtain⟨j,c,ht,l⟩:=I.tuple hq;refine DW (I.hb hc) (show s.heap.IsTuple a j.toArray from ht) (by simp[hn,<-hl,c.length]) g λh' i=>?_;have d:Inv X pins σ H {s with heap:=h'}:=I.kept (t':=s.toks) λb o e=>i b o (zQ18 (zQ05 e)) e;exact h pins _ σ H xs _ Q d (by simpa using c) hw
noncomputable def Qr(to d:TE)(t:Hz):TG:=λv σ H Q=>to σ H λo a=>d σ a λi b=>t o i v b λc=>Q σ c
theorem BA{o i:Expr}{to d:TE}{t:Hz}(ho:PE X o to)(hi:PE X i d)(m:L4 X t)(ha:∀v,assign (.Subscript o i pos) X.env v=(do let a<-holding [v] (eval o X.env);let b<-holding [v,a] (eval i X.env);standAt pos;holding [v,a,b] (setItem a b v);release [v,a,b] []):=by intro _;rfl):PG X (.Subscript o i pos) (Qr to d t):=by intro pins s σ H v u Q I r h;rw[ha];refine zQ00 (eh (bw (ho pins s σ H _ I h) λa s1 c=>?_));obtain⟨x,e,j,r1,q1⟩:=c;refine zQ00 (eh (bw (hi pins s1 σ e _ j q1) λb s2 c=>?_));obtain⟨y,f,k,r2,q2⟩:=c;refine zQ00 (wpAny_standAt (zQ00 (eh (bw (m pins s2 σ f x y v a b u _ k r1 r2 r q2) λ_ n c=>?_))));obtain⟨g,l,q3⟩:=c;exact wpAny_release ⟨σ,g,l,q3⟩
noncomputable def Jf(b:TE)(g:TG):TS:=λD σ H=>b σ H λx a=>g x σ a D.nx
theorem AL{tg e:Expr}{a:TE}{g:TG}(he:PE X e a)(d:PG X tg g)(f:swapsWithSole [tg] e pos.line X.env=pure false:=by rfl)(hw:swappedStores [tg] e X.env=pure none:=by rfl)(h1:(assignEach [tg] X.env).map (·.2)=[assign tg X.env]:=by rfl):PS X (.Assign [tg] e pos) (Jf a g):=by intro pins s σ H D I h;refine wpAny_Assign_stores (bw (he pins s σ H _ I h) λv s1 i=>?_) f hw;obtain⟨x,b,c,r1,q1⟩:=i;rw[h1];exact bw (d pins s1 σ b x v _ c r1 q1) λ_ s2 q=>q
theorem aM{i:Nat}{x:Str}{e:Expr}{a:TE}{pos':Pos}(f:X.N.Nodup)(hi:X.N[i]?=some x)(k:Loc X.env.scope x)(he:PE X e a)(j:swapsWith e (some (.Name x pos')) pos.line X.env=pure false:=by rfl)(g:X.fn x=true\/X.env.scope.names.lookup x=some .local:=by first|exact .inl rfl|exact .inr rfl|assumption):PS X (.Assign [.Name x pos'] e pos) (Jf a (jY i)):=by intro pins s σ H D I h;refine wpAny_Assign_Name (bw (he pins s σ H _ I h) λv s1 l=>?_) j;obtain⟨y,b,c,r1,q1⟩:=l;exact iZ c f hi k r1 (λs2 d=>⟨_,b,d,q1⟩) g
noncomputable def PM(i:Nat)(c:TE)(d:Of):TS:=λD σ H=>∃x,σ[i]?=some (some x)/\c σ H λy a=>d x y a λz b=>D.nx (σ.set i (some z)) b
theorem GG{i:Nat}{x:Str}{e:Expr}{f:TE}{op:Operator}{g:Of}{pos':Pos}(A:X.N.Nodup)(hi:X.N[i]?=some x)(b:Loc X.env.scope x)(he:PE X e f)(ho:R_ X op g)(C:X.fn x=true\/X.env.scope.names.lookup x=some .local:=by first|exact .inl rfl|exact .inr rfl|assumption):PS X (.AugAssign (.Name x pos') op e pos) (PM i f g):=by
 intro pins s σ H D I h;obtain⟨v,t,h⟩:=h;obtain⟨m,hn,hl⟩:=I.loc;have F:Ml X.env.scope x:=by rcases b with k|k;exact .inl k;exact .inr (.inl k)
 obtain⟨u,r,l⟩:=hl i x v hi t F;refine wpAny_AugAssign_Name ?_;have go:wpAny (model X.prog X.w) X.A (eval e X.env) (λw s₂=>wpAny (model X.prog X.w) X.A (inplaceOp op u w) (λr E=>wpAny (model X.prog X.w) X.A (storeName X.env x r) (λ_=>SP X pins D .next) X.xe E) X.xe s₂) X.xe s:=by refine bw (he pins s σ H _ I h) λw s1 d=>?_;obtain⟨y,j,o,r1,q1⟩:=d;refine bw (ho pins s1 σ j v y u w _ o r r1 q1) λz s2 d=>?_;obtain⟨J,n,p,r2,q2⟩:=d;exact iZ p A hi b r2 (λG q=>⟨_,n,q,q2⟩) C
 rcases l with⟨a,hm⟩|⟨a,c,hc,B⟩;·exact wpAny_loadName_local I.ok.kind a hn hm go
 ·rcases a with a|a;·exact wpAny_loadName_cell I.ok.kind a hc B go
  ·rcases b with k|k;·have :X.env.scope.names.lookup x=some .free:=a;rw[k]at this;cases this
   ·have :X.env.scope.names.lookup x=some .free:=a;rw[k]at this;cases this
noncomputable def Vl(f:Int->Int->Int):Of:=λx y H Q=>∃i j,x= .int i/\y= .int j/\Q (.int (f i j)) H
theorem IE:R_ X .Add (Vl λi j=>i+j):=by intro pins s σ H x y v u Q I r1 r2 h;obtain⟨i,j,a,b,q⟩:=h;subst a;subst b;obtain⟨t,rfl⟩:=r1;obtain⟨t',rfl⟩:=r2;exact iadd_int ⟨.int _,H,I.tok _,⟨_,rfl⟩,q⟩
end
section
variable{X:Cx}{pos:Pos}
end
structure It where
 go:Nat->Hp->Prop
 rZ:Nat->Hp->V->Hp->Prop
 stop:Nat->Hp->Prop
noncomputable def iX(X:Cx)(pins:List (Addr×Obj))(H:Hp)(b:Addr):Prop:=H b=none/\b≠X.env.locals/\b∉X.fs/\(b∈X.ex\/X.bG.heap.objs.size<=b)/\(∀x c,X.env.cells.lookup x=some c->c≠b)/\∀p∈X.pn++pins,p.1≠b
theorem Inv.Ad{X:Cx}{pins:List (Addr×Obj)}{σ:St}{H H':Hp}{s:Shared}{b:Addr}(I:Inv X pins σ H s)(hb:s.heap.objs.size<=b)(hn:H' b=none):iX X pins H' b:=by
 refine⟨hn,Nat.ne_of_gt (dQ I.lt hb),I.OM hb, .inr (cu I.sz hb),λx c e z=>?_,λp a z=>?_⟩;·obtain⟨v,q⟩:=I.cell x c e;exact absurd (dQ q.lt (by rw[z];exact hb)) (Nat.lt_irrefl _)
 ·exact absurd (dQ (zQ05 (I.pin p a).1) (by rw[z];exact hb)) (Nat.lt_irrefl _)
structure Turn(P:Program)(w:World)(K:PySem.W.Frag)(tg:Expr)(J:It)(fp:List Addr)(it:Addr)(tn:Nat->Heap->Prop):Prop where
 mem:it∈fp
 obj:∀i h,tn i h->∀b∈fp,∃o,h.get? b=some o/\∀v,o.data≠ .cell v
 keep:∀i h h',tn i h->(∀b∈fp,∀o,h.get? b=some o->h'.get? b=some o)->tn i h'
 item:∀(X:Cx),X.prog=P->X.w=w->X.K=K->X.calm=true->∀(i:Nat)(pins:List (Addr×Obj))(s:Shared)(σ:St)(H:Hp)(E:Value->Shared->Prop),Inv X pins σ H s->(∀b∈fp,iX X pins H b)->tn i s.heap->J.go i H->wpAny (model P w) X.A (pyNext (.ref it)) (λr s1=>∃u,r=some u/\wpAny (model P w) X.A (letOwnedTupleGo tg (.ref it) u) (λ_ s2=>∃x H',Inv X pins σ H' s2/\RelV x u/\J.rZ i H x H'/\tn (i+1) s2.heap/\∀b∈fp,H' b=none) E s1) E s
 done:∀(X:Cx),X.prog=P->X.w=w->X.K=K->X.calm=true->∀(i:Nat)(pins:List (Addr×Obj))(s:Shared)(σ:St)(H:Hp)(E:Value->Shared->Prop),Inv X pins σ H s->(∀b∈fp,iX X pins H b)->tn i s.heap->J.stop i H->wpAny (model P w) X.A (pyNext (.ref it)) (λr s1=>r=none/\Inv X pins σ H s1) E s
 self:∀(A:Around)(i:Nat)(s:Shared)(Q:Value->Shared->Prop)(E:Value->Shared->Prop),tn i s.heap->Q (.ref it) s->wpAny (model P w) A (pyIter (.ref it)) Q E s
noncomputable abbrev TI:=St->Hp->(It->Hp->Prop)->Prop
noncomputable def Te(X:Cx)(pins:List (Addr×Obj))(σ:St)(tg:Expr)(R:It->Hp->Prop)(a:Value)(s2:Shared):Prop:=∃(it:Addr)(fp:List Addr)(tn:Nat->Heap->Prop)(J:It)(H':Hp),a= .ref it/\Inv X pins σ H' s2/\Turn X.prog X.w X.K tg J fp it tn/\tn 0 s2.heap/\(∀b∈fp,iX X pins H' b)/\R J H'
noncomputable def PI(X:Cx)(tg iter:Expr)(a:TI):Prop:=∀(pins:List (Addr×Obj))(s:Shared)(σ:St)(H:Hp)(R:It->Hp->Prop),Inv X pins σ H s->a σ H R->wpAny (model X.prog X.w) X.A (eval iter X.env) (λv s1=>wpAny (model X.prog X.w) X.A (pyIter v) (Te X pins σ tg R) X.xe s1) X.xe s
theorem xy{M:Model}{A:Around}{E:Value->Shared->Prop}{s:Shared}{tg:Expr}{it:Addr}{u:Value}{o:Obj}{n:String}{vs:Array Value}{Q:Unit->Shared->Prop}(ho:s.heap.get? it=some o)(hc:o.cls= .type n)(hd:o.data= .fields vs)(hn:["enumerate","zip","dict_itemiterator","dict_reverseitemiterator","odict_iterator","itertools.zip_longest","itertools.pairwise"].contains n=false)(a:Q () s):wpAny M A (letOwnedTupleGo tg (.ref it) u) Q E s:=by unfold letOwnedTupleGo;cases tg<;>first|exact zQ02 a|(cases u<;>first|exact zQ02 a|(refine zQ00 (wpAny_load ho ?_);rw[hc,hd];show wpAny M A (if(["enumerate","zip","dict_itemiterator","dict_reverseitemiterator","odict_iterator","itertools.zip_longest","itertools.pairwise"].contains n&&vs[0]?==some (rawInt _))=true then _ else _) Q E s;rw[if_neg (by intro h;rw[hn,Bool.false_and]at h;cases h)];exact zQ02 a))
noncomputable def Ni(K:PySem.W.Frag)(a:Addr):It:=⟨λi H=>∃xs x,bO K H a xs/\xs[i]?=some x,λi H x H'=>H'=H/\∀xs,bO K H a xs->xs[i]?=some x,λi H=>∃xs,bO K H a xs/\xs.length<=i⟩
noncomputable def Ry(K:PySem.W.Frag)(a:Addr):It:=⟨λi H=>∃xs x,d8 K H a xs/\xs[i]?=some x,λi H x H'=>H'=H/\∀xs,d8 K H a xs->xs[i]?=some x,λi H=>∃xs,d8 K H a xs/\xs.length<=i⟩
noncomputable def JL(lo:Int)(n:Nat):It:=⟨λi _=>i<n,λi H x H'=>H'=H/\x= .int (lo+i),λi _=>n<=i⟩
theorem zi{P:Program}{w:World}{K:PySem.W.Frag}{tg:Expr}(a it:Addr):Turn P w K tg (Ni K a) [it] it (λi h=>h.IsListIter it a i)where
 mem:=by simp
 obj:=λi h st b hb=>by
  have e:b=it:=by simpa using hb
  subst e;obtain⟨o,e,c,d⟩:=st;exact⟨o,e,λv z=>by rw[d]at z;cases z⟩
 keep:=λi h h' st k=>st.at λo e=>k it (by simp) o e;item:=by intro X q hw n hc i pins s σ H E I j st r;subst q hw n;obtain⟨xs,x,hq,t⟩:=r;obtain⟨G,y,p,F⟩:=I.list hq;obtain⟨u,C,J⟩:=y.get t;obtain⟨l,f1,f2,f,m,g⟩:=j it (by simp);refine wpAny_pyNext_list_item st p.isList (x:=u) (by simpa using C) λh' aG sb=>?_;have A:Inv X pins σ H {s with heap:=h'}:=I.turned (t':=s.toks) (λb o hb e=>(sb.2 b hb).trans e) l f1 f m g;obtain⟨o,e,c,d⟩:=id aG;exact⟨u,rfl,xy (s:={s with heap:=h'}) e c d (by decide) ⟨x,H,A,J,⟨rfl,λL D=>by rw[I.md D hq];exact t⟩,aG,λb hb=>(j b hb).1⟩⟩
 done:=by intro X q hw n hc i pins s σ H E I j st r;subst q hw n;obtain⟨xs,hq,t⟩:=r;obtain⟨G,y,p,F⟩:=I.list hq;obtain⟨l,f1,f2,f,m,g⟩:=j it (by simp);have hl:=y.length;exact gW (I.hb hc) (I.FC hc f g) st p.isList (by simp;lia) λh' B=>⟨rfl,I.turned (t':=s.toks) (λb o hb e=>B b o hb e) l f1 f m g⟩
 self:=λ_ _ _ _ _ st h=>wpAny_pyIter_listiter st h
theorem vA{P:Program}{w:World}{K:PySem.W.Frag}{tg:Expr}(a it:Addr):Turn P w K tg (Ry K a) [it] it (λi h=>h.IsTupleIter it a i)where
 mem:=by simp
 obj:=λi h st b hb=>by
  have e:b=it:=by simpa using hb
  subst e;obtain⟨o,e,c,d⟩:=st;exact⟨o,e,λv z=>by rw[d]at z;cases z⟩
 keep:=λi h h' st k=>st.at λo e=>k it (by simp) o e;item:=by intro X q hw n hc i pins s σ H E I j st r;subst q hw n;obtain⟨xs,x,hq,t⟩:=r;obtain⟨y,A,p,G⟩:=I.tuple hq;obtain⟨u,D,J⟩:=A.get t;obtain⟨l,f1,f2,f,m,g⟩:=j it (by simp);refine wpAny_pyNext_tuple_item st (show s.heap.IsTuple a y.toArray from p) (x:=u) (by simpa using D) λh' aG sb=>?_;have B:Inv X pins σ H {s with heap:=h'}:=I.turned (t':=s.toks) (λb o hb e=>(sb.2 b hb).trans e) l f1 f m g;obtain⟨o,e,c,d⟩:=id aG;exact⟨u,rfl,xy (s:={s with heap:=h'}) e c d (by decide) ⟨x,H,B,J,⟨rfl,λL F=>by rw[I.zI F hq];exact t⟩,aG,λb hb=>(j b hb).1⟩⟩
 done:=by intro X q hw n hc i pins s σ H E I j st r;subst q hw n;obtain⟨xs,hq,t⟩:=r;obtain⟨y,A,p,G⟩:=I.tuple hq;obtain⟨l,f1,f2,f,m,g⟩:=j it (by simp);have hl:=A.length;exact next_tuple_end (I.hb hc) (I.FC hc f g) st (show s.heap.IsTuple a y.toArray from p) (by simp;lia) λh' C=>⟨rfl,I.turned (t':=s.toks) (λb o hb e=>C b o hb e) l f1 f m g⟩
 self:=λ_ _ _ _ _ st h=>wpAny_pyIter_tupleiter st h
theorem uU{P:Program}{w:World}{K:PySem.W.Frag}{tg:Expr}(it:Addr)(lo:Int)(n:Nat):Turn P w K tg (JL lo n) [it] it (λi h=>IsRangeIter h it (lo+(i:Nat)*1) ((n:Int)-(i:Nat)) 1)where
 mem:=by simp
 obj:=λi h st b hb=>by
  have e:b=it:=by simpa using hb
  subst e;exact⟨_,st,λv z=>by have u:Data.fields _=Data.cell v:=z;cases u⟩
 keep:=λi h h' st k=>k it (by simp) _ st;item:=by intro X l hw j hc i pins s σ H E I a st m;subst l hw j;obtain⟨c,f1,f2,d,f,g⟩:=a it (by simp);refine vF m st λv h' tk hv aG r=>?_;obtain⟨t,rfl⟩:=hv;have p:Inv X pins σ H {s with heap:=h',toks:=tk}:=I.turned (λb o hb e=>r b o (by simpa using hb) e) c f1 d f g;refine⟨_,rfl,xy (s:={s with heap:=h',toks:=tk}) (n:="range_iterator") aG rfl rfl (by decide) ⟨.int (lo+i),H,p,⟨t,?_⟩,⟨rfl,rfl⟩,aG,λb hb=>(a b hb).1⟩⟩;rw[Int.mul_one]
 done:=by intro X l hw j hc i pins s σ H E I a st m;subst l hw j;obtain⟨c,f1,f2,d,f,g⟩:=a it (by simp);exact mY (I.hb hc) st (by have :n<=i:=m;lia) λh' q=>⟨rfl,I.turned (t':=s.toks) (λb o hb e=>q b o hb e) c f1 d f g⟩
 self:=λ_ _ _ _ _ st h=>wpAny_pyIter_rangeiter st h
section
variable{X:Cx}{tg:Expr}
noncomputable def Lw(K:PySem.W.Frag)(tl:TE):TI:=λσ H R=>tl σ H λx b=>∃a,x= .ref a/\(∃xs,bO K b a xs)/\R (Ni K a) b
noncomputable def Qc(K:PySem.W.Frag)(tl:TE):TI:=λσ H R=>tl σ H λx b=>∃a,x= .ref a/\(∃xs,d8 K b a xs)/\R (Ry K a) b
theorem xQ{l:Expr}{tl:TE}(hl:PE X l tl):PI X tg l (Lw X.K tl):=by
 intro pins s σ H R I h;refine bw (hl pins s σ H _ I h) λv s1 f=>?_;obtain⟨x,d,c,r1,q1⟩:=f;obtain⟨a,e,⟨xs,hq⟩,q⟩:=q1;subst e;cases r1;obtain⟨i,j,p,g⟩:=c.list hq;refine wpAny_pyIter_list p.isList ?_;refine⟨s1.heap.objs.size,[s1.heap.objs.size],_,_,d,rfl,c.kept (t':=s1.toks) λb o e=>zQ01 _ e,zi a _,⟨_,zQ06 _ rfl,rfl,rfl⟩,λb hb=>?_,q⟩;have e:b=s1.heap.objs.size:=by simpa using hb
 subst e;exact c.Ad (zQ04 _) (c.bc.fresh (zQ04 _))
theorem Ij{l:Expr}{tl:TE}(hl:PE X l tl):PI X tg l (Qc X.K tl):=by
 intro pins s σ H R I h;refine bw (hl pins s σ H _ I h) λv s1 g=>?_;obtain⟨x,d,c,r1,q1⟩:=g;obtain⟨a,e,⟨xs,hq⟩,q⟩:=q1;subst e;cases r1;obtain⟨f,j,p,i⟩:=c.tuple hq;refine wpAny_pyIter_tuple (show s1.heap.IsTuple a f.toArray from p) ?_;refine⟨s1.heap.objs.size,[s1.heap.objs.size],_,_,d,rfl,c.kept (t':=s1.toks) λb o e=>zQ01 _ e,vA a _,⟨_,zQ06 _ rfl,rfl,rfl⟩,λb hb=>?_,q⟩;have e:b=s1.heap.objs.size:=by simpa using hb
 subst e;exact c.Ad (zQ04 _) (c.bc.fresh (zQ04 _))
theorem BP{pins:List (Addr×Obj)}{σ:St}{H:Hp}{s:Shared}{R:It->Hp->Prop}{E:Value->Shared->Prop}{lo hi:Int}{t u v:Tok}{tk:Nat}(I:Inv X pins σ H s)(h1:-(2^62)<=lo)(h2:lo<2^62)(h3:-(2^62)<=hi)(h4:hi<2^62)(q:R (JL lo (hi-lo).toNat) H):wpAny (model X.prog X.w) X.A (pyIter (.ref s.heap.objs.size)) (Te X pins σ tg R) E {s with heap:=s.heap.push {cls:= .type "range",data:= .fields #[.int lo t, .int hi u, .int 1 v]},toks:=tk}:=by
 refine wpAny_pyIter_range (IsRange.new ..) (small_one h1 h2 h3 h4) ?_;have a:Inv X pins σ H {s with heap:=s.heap.push {cls:= .type "range",data:= .fields #[.int lo t, .int hi u, .int 1 v]},toks:=tk}:=I.kept λb o e=>zQ01 _ e;refine⟨(s.heap.push {cls:= .type "range",data:= .fields #[.int lo t, .int hi u, .int 1 v]}).objs.size,[(s.heap.push {cls:= .type "range",data:= .fields #[.int lo t, .int hi u, .int 1 v]}).objs.size],_,_,H,rfl,a.kept (t':=tk) λb o e=>zQ01 _ e,uU _ lo (hi-lo).toNat,?_,λb hb=>?_,q⟩
 ·have c:lo+((0:Nat):Int)*1=lo:=by simp
  have d:(((hi-lo).toNat:Nat):Int)-((0:Nat):Int)=Builtin.Range.rangeSize lo hi 1:=by rw[rangeSize_one];split<;>lia
  show IsRangeIter _ _ (lo+((0:Nat):Int)*1) ((((hi-lo).toNat:Nat):Int)-((0:Nat):Int)) 1;rw[c,d];exact zQ06 _ rfl
 ·have e:b=(s.heap.push {cls:= .type "range",data:= .fields #[.int lo t, .int hi u, .int 1 v]}).objs.size:=by simpa using hb
  subst e;exact a.Ad (zQ04 _) (a.bc.fresh (zQ04 _))
noncomputable def Mt(b:TA):TI:=λσ H R=>b σ H λvs a=>∃j:Int,vs=[.int j]/\-(2^62)<=j/\j<2^62/\R (JL 0 j.toNat) a
theorem gE{a:Expr}{c:TA}{p b:Pos}(f:Gl X "range")(hm:X.mg "range"=none)(ha:PA X [a] c)(g:starEach [a] X.env=[(false,eval a X.env)]:=by rfl):PI X tg (.Call (.Name "range" p) [a] [] b) (Mt c):=by intro pins s σ H R I h;refine Call_ (f6 I f hm boot_range (PyProof.Rows.callWith_type1 (bw (ha b pins s σ H _ I h) λus s1 k=>?_) g rfl));obtain⟨vs,l,d,r1,q1⟩:=k;obtain⟨j,e,q1,q2,q⟩:=q1;subst e;cases r1 with|cons r i=>cases i;obtain⟨t,rfl⟩:=r;exact call_range_1 (BP d (by lia) (by lia) q1 q2 (by simpa using q))
noncomputable def Q5(e:TI)(g:TG)(tb:TS):TS:=λD σ H=>e σ H λJ c=>∃W:Nat->Nat->St->Hp->Prop,(∃m,W 0 m σ c)/\∀i m σ H,W i m σ H->(J.stop i H/\D.nx σ H)\/(J.go i H/\∃N:St->Hp->Prop,(∀b H',N b H'->∃a,a<m/\W (i+1) a b H')/\∀x H',J.rZ i H x H'->g x σ H' λf d=>tb {D with nx:=N,ct:=N,bk:=D.nx} f d)
noncomputable def jC(fp:List Addr)(h:Heap):List (Addr×Obj):=fp.filterMap λb=>(h.get? b).map λo=>(b,o)
theorem dh{fp:List Addr}{h:Heap}{b:Addr}{o:Obj}(hb:b∈fp)(e:h.get? b=some o):(b,o)∈jC fp h:=List.mem_filterMap.mpr ⟨b,hb,by rw[e];rfl⟩
theorem yu{fp:List Addr}{h:Heap}{p:Addr×Obj}(c:p∈jC fp h):p.1∈fp/\h.get? p.1=some p.2:=by obtain⟨b,hb,e⟩:=List.mem_filterMap.mp c;cases q:h.get? b with|none=>rw[q]at e;cases e|some o=>rw[q]at e;have a:(b,o)=p:=Option.some.inj e;subst a;exact⟨hb,q⟩
theorem Inv.pinned{pins:List (Addr×Obj)}{σ:St}{H:Hp}{s:Shared}{fp:List Addr}(I:Inv X pins σ H s)(f:∀b∈fp,iX X pins H b)(ho:∀b∈fp,∃o,s.heap.get? b=some o/\∀v,o.data≠ .cell v):Inv X (pins++jC fp s.heap) σ H s:=I.k6 λp g=>(List.mem_append.mp g).elim (λz=>I.pin p (fJ _ z)) λz=>by obtain⟨hb,e⟩:=yu z;obtain⟨c,f1,f2,_⟩:=f p.1 hb;obtain⟨o,a,d⟩:=ho p.1 hb;rw[e]at a;cases a;exact⟨e,c,f1,f2,d⟩
theorem Inv.gc{pins b:List (Addr×Obj)}{σ:St}{H:Hp}{s:Shared}(I:Inv X (pins++b) σ H s):Inv X pins σ H s:=I.k6 λp a=>I.pin p (fJ _ (jy _ a))
theorem mJ{iter:Expr}{body:List Stmt}{M:TI}{g:TG}{tb:TS}{pos:Pos}(p:PassesOwn (model X.prog X.w) X.A X.env X.xe)(hc:X.calm=true)(hi:PI X tg iter M)(hg:PG X tg g)(hb:fY X body tb)(hs:∀x,foldedSetIterable iter X.env x=pure x:=by intro _;rfl):PS X (.For tg iter body [] pos) (Q5 M g tb):=by
 intro pins s σ H D I h;refine wpAny_For (bw (hi pins s σ H _ I h) λv s1 h1=>bw h1 λN3 s2 h2=>?_) hs;obtain⟨it,fp,tn,J,O,e,Q,T,bJ,f2,W,⟨m0,w0⟩,turn⟩:=h2;subst e;have B:∀{H':Hp},(∀b∈fp,H' b=none)->∀b∈fp,iX X pins H' b:=λhn b hb=>⟨hn b hb,(f2 b hb).2⟩;refine codeAny_forLoop_any (λn s'=>∃i t H',Inv X pins t H' s'/\tn i s'.heap/\(∀b∈fp,H' b=none)/\W i n t H') ?_ m0 ⟨0,σ,O,Q,bJ,λb hb=>(f2 b hb).1,w0⟩;rintro n G⟨i,w,y,E,L,F,w3⟩;rcases turn i n w y w3 with⟨stop,qn⟩|⟨go,N,Z,step⟩;·refine wpAny_passesOwn p (bw (T.done X rfl rfl rfl hc i pins G w y X.xe E (B F) L stop) λr s4 l=>?_);obtain⟨hr,R⟩:=l;subst hr;exact wpAny_execs_nil ⟨w,y,R,qn⟩
 ·refine wpAny_passesOwn p (bw (T.item X rfl rfl rfl hc i pins G w y X.xe E (B F) L go) λr s4 l=>?_);obtain⟨u,hr,h4⟩:=l;subst hr;refine wpAny_passesOwn p (bw h4 λ_ K l=>?_);obtain⟨x,C,S,r5,y5,A,Y⟩:=l;have U:=S.pinned (B Y) (T.obj _ _ A);refine wpAny_passesOwn p (bw (hg _ K w C x u _ U r5 (step x C y5)) λ_ s6 l=>?_);obtain⟨TV,P,V,q6⟩:=l;refine wpAny_passesOwn p (bw (hb _ s6 TV P _ V q6) λf z k=>?_);have again:∀{j:St}{a:Hp},Inv X (pins++jC fp K.heap) j a z->N j a->∃m,m<n/\∃i t H',Inv X pins t H' z/\tn i z.heap/\(∀b∈fp,H' b=none)/\W i m t H':=λ{j a}c q=>by obtain⟨m',hm,w7⟩:=Z j a q;refine⟨m',hm,i+1,j,a,c.gc,T.keep _ _ _ A λb hb o e=>(c.pin (b,o) (fJ _ (fJ _ (dh hb e)))).1,λb hb=>?_,w7⟩;obtain⟨o,e,d⟩:=T.obj _ _ A b hb;exact(c.pin (b,o) (fJ _ (fJ _ (dh hb e)))).2.1
  cases f with|next=>obtain⟨j,a,c,q⟩:=k;exact again c q|cont=>obtain⟨j,a,c,q⟩:=k;exact again c q|brk=>obtain⟨j,a,c,k⟩:=k;exact⟨j,a,c.gc,k⟩|ret v=>obtain⟨x7,j,a,c,r7,k⟩:=k;exact⟨x7,j,a,c.gc,r7,k⟩
end
theorem Cz{K:PySem.W.Frag}{a:Addr}{xs:List V}{g:TG}{tb:TS}{D:Ends}{σ:St}{H:Hp}(Pv:Nat->St->Hp->Prop)(h:Pv 0 σ H)(hl:∀i σ H,i<=xs.length->Pv i σ H->bO K H a xs)(j:∀i x σ H,xs[i]?=some x->Pv i σ H->g x σ H λd b=>tb {D with nx:=Pv (i+1),ct:=Pv (i+1),bk:=D.nx} d b)(hd:∀σ H,Pv xs.length σ H->D.nx σ H):∃W:Nat->Nat->St->Hp->Prop,(∃m,W 0 m σ H)/\∀i m σ H,W i m σ H->((Ni K a).stop i H/\D.nx σ H)\/((Ni K a).go i H/\∃N:St->Hp->Prop,(∀c H',N c H'->∃f,f<m/\W (i+1) f c H')/\∀x H',(Ni K a).rZ i H x H'->g x σ H' λd b=>tb {D with nx:=N,ct:=N,bk:=D.nx} d b):=by
 refine⟨λi m σ H=>m=xs.length-i/\i<=xs.length/\Pv i σ H,⟨xs.length,by simp,zQ11 _,h⟩,?_⟩;rintro i m σ H⟨rfl,hi,p⟩;have q:=hl i σ H hi p;by_cases hlt:i<xs.length;·refine .inr ⟨⟨xs,xs[i],q,by simp[hlt]⟩,Pv (i+1),λc H' k=>⟨xs.length-(i+1),by lia,rfl,hlt,k⟩,λx H' y=>?_⟩;obtain⟨e,y⟩:=y;subst e;exact j i x σ _ (y xs q) p
 ·have e:i=xs.length:=by lia
  subst e;exact .inl ⟨⟨xs,q,zQ04 _⟩,hd σ H p⟩
theorem yr{lo:Int}{n:Nat}{g:TG}{tb:TS}{D:Ends}{σ:St}{H:Hp}(Pv:Nat->St->Hp->Prop)(f:Pv 0 σ H)(h:∀i σ H,i<n->Pv i σ H->g (.int (lo+i)) σ H λc a=>tb {D with nx:=Pv (i+1),ct:=Pv (i+1),bk:=D.nx} c a)(hd:∀σ H,Pv n σ H->D.nx σ H):∃W:Nat->Nat->St->Hp->Prop,(∃m,W 0 m σ H)/\∀i m σ H,W i m σ H->((JL lo n).stop i H/\D.nx σ H)\/((JL lo n).go i H/\∃N:St->Hp->Prop,(∀b H',N b H'->∃d,d<m/\W (i+1) d b H')/\∀x H',(JL lo n).rZ i H x H'->g x σ H' λc a=>tb {D with nx:=N,ct:=N,bk:=D.nx} c a):=by
 refine⟨λi m σ H=>m=n-i/\i<=n/\Pv i σ H,⟨n,by simp,zQ11 _,f⟩,?_⟩;rintro i m σ H⟨rfl,hi,p⟩;by_cases hlt:i<n;·refine .inr ⟨hlt,Pv (i+1),λb H' j=>⟨n-(i+1),by lia,rfl,hlt,j⟩,λx H' y=>?_⟩;obtain⟨e,y⟩:=y;subst e y;exact h i σ _ hlt p
 ·have e:i=n:=by lia
  subst e;exact .inl ⟨zQ04 _,hd σ H p⟩
noncomputable abbrev R2:=V->V->Hp->VK->Prop
noncomputable def lj(X:Cx)(f:Value->Value->Sem Value)(r:R2):Prop:=∀(pins:List (Addr×Obj))(s:Shared)(σ:St)(H:Hp)(x y:V)(v u:Value)(Q:VK),Inv X pins σ H s->RelV x v->RelV y u->r x y H Q->wpAny (model X.prog X.w) X.A (f v u) (EP X pins σ Q) X.xe s
noncomputable def P6(X:Cx)(f:Value->Sem Value)(r:V->Hp->VK->Prop):Prop:=∀(pins:List (Addr×Obj))(s:Shared)(σ:St)(H:Hp)(x:V)(v:Value)(Q:VK),Inv X pins σ H s->RelV x v->r x H Q->wpAny (model X.prog X.w) X.A (f v) (EP X pins σ Q) X.xe s
noncomputable def kh(X:Cx)(f:Value)(r:List V->Hp->VK->Prop):Prop:=∀(pins:List (Addr×Obj))(s:Shared)(σ:St)(H:Hp)(xs:List V)(us:List Value)(Q:VK),Inv X pins σ H s->Vals xs us->r xs H Q->wpAny (model X.prog X.w) X.A (call f us) (EP X pins σ Q) X.xe s
noncomputable def LC(r:R2)(c tb:TE):TE:=λσ H Q=>c σ H λx a=>tb σ a λy b=>r x y b Q
noncomputable def Tx(r:V->Hp->VK->Prop)(b:TE):TE:=λσ H Q=>b σ H λx a=>r x a Q
noncomputable def rI(C:Int->Int->Prop)(g:Int->Int->V):R2:=λx y H Q=>∃i j,x= .int i/\y= .int j/\C i j/\Q (g i j) H
noncomputable def DG(g:Int->Int->V):R2:=λx y H Q=>∃i j,x= .int i/\y= .int j/\Q (g i j) H
noncomputable def rU(g:Int->V):V->Hp->VK->Prop:=λx H Q=>∃i,x= .int i/\Q (g i) H
section
variable{X:Cx}{a b c:Expr}{ta tb tc:TE}{pos:Pos}
theorem IF(ha:PE X a ta)(hb:PE X b tb){pins:List (Addr×Obj)}{s:Shared}{σ:St}{H:Hp}{R:V->V->Hp->Prop}(I:Inv X pins σ H s)(h:ta σ H λx e=>tb σ e λy d=>R x y d){Q:Value->Shared->Prop}{f:Value->Value->Sem Value}(k:∀v u s2 x y d,Inv X pins σ d s2->RelV x v->RelV y u->R x y d->wpAny (model X.prog X.w) X.A (f v u) Q X.xe s2):wpAny (model X.prog X.w) X.A (eval a X.env) (λv s₁=>wpAny (model X.prog X.w) X.A (eval b X.env) (λu s₂=>wpAny (model X.prog X.w) X.A (f v u) Q X.xe s₂) X.xe s₁) X.xe s:=by refine bw (ha pins s σ H _ I h) λv s1 g=>?_;obtain⟨x,e,i,r1,q1⟩:=g;refine bw (hb pins s1 σ e _ i q1) λu s2 g=>?_;obtain⟨y,d,j,r2,q2⟩:=g;exact k v u s2 x y d j r1 r2 q2
theorem aD{op:Operator}{r:R2}(ho:lj X (binaryOp op) r)(ha:PE X a ta)(hb:PE X b tb):PE X (.BinOp a op b pos) (LC r ta tb):=by intro pins s σ H Q I h;exact wpAny_BinOp (IF ha hb I h λv u s2 x y d e f g q=>ho pins s2 σ d x y v u Q e f g q)
theorem Np{op:UnaryOp}{r:V->Hp->VK->Prop}(ho:P6 X (unaryOp op) r)(ha:PE X a ta):PE X (.UnaryOp op a pos) (Tx r ta):=by intro pins s σ H Q I h;exact UnaryOp_ (bw (ha pins s σ H _ I h) λv s1⟨x,d,e,r1,q1⟩=>ho pins s1 σ d x v Q e r1 q1)
theorem P7{f:Value->Value->Sem Value}{C:Int->Int->Prop}{g:Int->Int->Int}(rule:∀(i j:Int)(t u:Tok)(s:Shared)(Q:Value->Shared->Prop)(E:Value->Shared->Prop),C i j->Q (.int (g i j) s.toks) {s with toks:=s.toks+1}->wpAny (model X.prog X.w) X.A (f (.int i t) (.int j u)) Q E s):lj X f (rI C λi j=> .int (g i j)):=by intro pins s σ H x y v u Q I d e h;obtain⟨i,j,rfl,rfl,hc,q⟩:=h;obtain⟨t,rfl⟩:=d;obtain⟨t',rfl⟩:=e;exact rule i j t t' s _ _ hc ⟨.int (g i j),H,I.tok _,⟨_,rfl⟩,q⟩
theorem M6{f:Value->Value->Sem Value}{g:Int->Int->Int}(rule:∀(i j:Int)(t u:Tok)(s:Shared)(Q:Value->Shared->Prop)(E:Value->Shared->Prop),Q (.int (g i j) s.toks) {s with toks:=s.toks+1}->wpAny (model X.prog X.w) X.A (f (.int i t) (.int j u)) Q E s):lj X f (DG λi j=> .int (g i j)):=by intro pins s σ H x y v u Q I d e h;obtain⟨i,j,rfl,rfl,q⟩:=h;obtain⟨t,rfl⟩:=d;obtain⟨t',rfl⟩:=e;exact rule i j t t' s _ _ ⟨.int (g i j),H,I.tok _,⟨_,rfl⟩,q⟩
theorem EA{f:Value->Value->Sem Value}{g:Int->Int->Bool}(rule:∀(i j:Int)(t u:Tok)(s:Shared)(Q:Value->Shared->Prop)(E:Value->Shared->Prop),Q (.bool (g i j)) s->wpAny (model X.prog X.w) X.A (f (.int i t) (.int j u)) Q E s):lj X f (DG λi j=> .bl (g i j)):=by intro pins s σ H x y v u Q I d e h;obtain⟨i,j,rfl,rfl,q⟩:=h;obtain⟨t,rfl⟩:=d;obtain⟨t',rfl⟩:=e;exact rule i j t t' s _ _ ⟨.bl (g i j),H,I,rfl,q⟩
def Pj(i j:Int):Prop:=0<j/\j<1073741824
def Hv(i j:Int):Prop:=(-(2^64)<i/\i<2^64)\/(-(2^64)<j/\j<2^64)
theorem Hv.ok{i j:Int}(h:Hv i j):IntMulOk i j:=by
 rcases h with⟨h1,h2⟩|⟨h1,h2⟩;·exact .of_left (intBits_le_64 h1 h2)
 ·exact .of_right (intBits_le_64 h1 h2)
theorem b9:lj X (binaryOp .Add) (DG λi j=> .int (i+j)):=M6 λ_ _ _ _ _ _ _ q=>add_int q
theorem jB:lj X (binaryOp .Sub) (DG λi j=> .int (i-j)):=M6 λ_ _ _ _ _ _ _ q=>sub_int q
theorem Ax:lj X (binaryOp .Mult) (rI Hv λi j=> .int (i*j)):=P7 λ_ _ _ _ _ _ _ hc q=>mul_int q hc.ok
theorem cB:lj X (binaryOp .FloorDiv) (rI Pj λi j=> .int (i/j)):=P7 λi j _ _ _ _ _ hc q=>by have h1:(0:Int)<j:=hc.1;have h2:j<1073741824:=hc.2;exact floordiv_int (by lia) (by rw[Int.fdiv_eq_ediv_of_nonneg i (by lia)];exact q) (.inl (PyProof.noPylong_small (by lia)))
theorem bU:lj X (binaryOp .Mod) (rI (λ_ j=>0<j) λi j=> .int (i%j)):=P7 λi j _ _ _ _ _ hc q=>by have h1:(0:Int)<j:=hc;exact mod_int' (by lia) (by rw[Int.fmod_eq_emod_of_nonneg i (by lia)];exact q)
theorem V7{f:Value->Sem Value}{g:Int->Int}(rule:∀(i:Int)(t:Tok)(s:Shared)(Q:Value->Shared->Prop)(E:Value->Shared->Prop),Q (.int (g i) s.toks) {s with toks:=s.toks+1}->wpAny (model X.prog X.w) X.A (f (.int i t)) Q E s):P6 X f (rU λi=> .int (g i)):=by intro pins s σ H x v Q I d h;obtain⟨i,rfl,q⟩:=h;obtain⟨t,rfl⟩:=d;exact rule i t s _ _ ⟨.int (g i),H,I.tok _,⟨_,rfl⟩,q⟩
theorem Je:P6 X (unaryOp .USub) (rU λi=> .int (-i)):=V7 λ_ _ _ _ _ q=>neg_int q
end
noncomputable def CG:V->V->Bool| .a_, .a_=>true| .a_, .int _=>true| .int _, .a_=>true| .a_, .bl _=>true| .bl _, .a_=>true| .a_, .str _=>true| .str _, .a_=>true| .int _, .int _=>true| .bl _, .bl _=>true| .str _, .str _=>true| .zN _, .zN _=>true| .int _, .str _=>true| .str _, .int _=>true| .bl _, .str _=>true| .str _, .bl _=>true|_,_=>false
noncomputable def TY:R2:=λx y H Q=>CG x y=true/\Q (.bl (decide (x=y))) H
noncomputable def UA:R2:=λx y H Q=>CG x y=true/\Q (.bl (!decide (x=y))) H
theorem xS{i j:Int}:decide (V.int i=V.int j)=(i==j):=by rw[Bool.eq_iff_iff];simp
theorem BD{i j:Bool}:decide (V.bl i=V.bl j)=(i==j):=by rw[Bool.eq_iff_iff];simp
theorem xv{i j:Str}:decide (V.str i=V.str j)=(i==j):=by rw[Bool.eq_iff_iff];simp
theorem xT{i j:Array UInt8}:decide (V.zN i=V.zN j)=(i.toList==j.toList):=by rw[Bool.eq_iff_iff];cases i;cases j;simp
section
variable{X:Cx}{a b c:Expr}{ta tb tc:TE}{pos:Pos}
theorem aZ{pins:List (Addr×Obj)}{σ:St}{H:Hp}{s:Shared}{Q:VK}{k d:Bool}(I:Inv X pins σ H s)(q:Q (.bl k) H)(e:k=d):EP X pins σ Q (.bool d) s:=by subst e;exact⟨.bl k,H,I,rfl,q⟩
theorem ck:lj X (compareOp .Eq) TY:=by
 intro pins s σ H x y v u Q I f d h;obtain⟨e,q⟩:=h;cases x with
  |a_=>cases f;cases y with|a_=>cases d;exact PySem.EqNone.eq_none_none (aZ I q (by simp))|bl j=>cases d;exact PySem.EqNone.eq_none_bool (aZ I q (by simp))|int j=>obtain⟨t',rfl⟩:=d;exact PySem.EqNone.eq_none_int (aZ I q (by simp))|str j=>obtain⟨t',rfl⟩:=d;exact PySem.EqNone.eq_none_str (aZ I q (by simp))|_=>exact absurd (show false=true from e) dR
  |bl i=>cases f;cases y with|a_=>cases d;exact PySem.EqNone.eq_bool_none (aZ I q (by simp))|bl j=>cases d;exact eq_bool (aZ I q BD)|str j=>obtain⟨t',rfl⟩:=d;exact PySem.EqMixed.eq_bool_str (aZ I q (by simp))|_=>exact absurd (show false=true from e) dR
  |int i=>obtain⟨t,rfl⟩:=f;cases y with|a_=>cases d;exact PySem.EqNone.eq_int_none (aZ I q (by simp))|int j=>obtain⟨t',rfl⟩:=d;exact eq_int (aZ I q xS)|str j=>obtain⟨t',rfl⟩:=d;exact PySem.EqMixed.eq_int_str (aZ I q (by simp))|_=>exact absurd (show false=true from e) dR
  |str i=>obtain⟨t,rfl⟩:=f;cases y with|a_=>cases d;exact PySem.EqNone.eq_str_none (aZ I q (by simp))|bl j=>cases d;exact PySem.EqMixed.eq_str_bool (aZ I q (by simp))|int j=>obtain⟨t',rfl⟩:=d;exact PySem.EqMixed.eq_str_int (aZ I q (by simp))|str j=>obtain⟨t',rfl⟩:=d;exact eq_str (aZ I q xv)|_=>exact absurd (show false=true from e) dR
  |zN i=>obtain⟨t,rfl⟩:=f;cases y with|zN j=>obtain⟨t',rfl⟩:=d;exact PySem.W.eq_bytes (aZ I q xT)|_=>exact absurd (show false=true from e) dR
  |_=>cases y<;>exact absurd (show false=true from e) dR
theorem KQ:lj X (compareOp .NotEq) UA:=by
 intro pins s σ H x y v u Q I f d h;obtain⟨e,q⟩:=h;cases x with
  |a_=>cases f;cases y with|a_=>cases d;exact PySem.EqNone.ne_none_none (aZ I q (by simp))|bl j=>cases d;exact PySem.EqNone.ne_none_bool (aZ I q (by simp))|int j=>obtain⟨t',rfl⟩:=d;exact PySem.EqNone.ne_none_int (aZ I q (by simp))|str j=>obtain⟨t',rfl⟩:=d;exact PySem.EqNone.ne_none_str (aZ I q (by simp))|_=>exact absurd (show false=true from e) dR
  |bl i=>cases f;cases y with|a_=>cases d;exact PySem.EqNone.ne_bool_none (aZ I q (by simp))|bl j=>cases d;exact ne_bool (aZ I q (congrArg not BD))|str j=>obtain⟨t',rfl⟩:=d;exact PySem.EqMixed.ne_bool_str (aZ I q (by simp))|_=>exact absurd (show false=true from e) dR
  |int i=>obtain⟨t,rfl⟩:=f;cases y with|a_=>cases d;exact PySem.EqNone.ne_int_none (aZ I q (by simp))|int j=>obtain⟨t',rfl⟩:=d;exact ne_int (aZ I q (congrArg not xS))|str j=>obtain⟨t',rfl⟩:=d;exact PySem.EqMixed.ne_int_str (aZ I q (by simp))|_=>exact absurd (show false=true from e) dR
  |str i=>obtain⟨t,rfl⟩:=f;cases y with|a_=>cases d;exact PySem.EqNone.ne_str_none (aZ I q (by simp))|bl j=>cases d;exact PySem.EqMixed.ne_str_bool (aZ I q (by simp))|int j=>obtain⟨t',rfl⟩:=d;exact PySem.EqMixed.ne_str_int (aZ I q (by simp))|str j=>obtain⟨t',rfl⟩:=d;exact ne_str (aZ I q (congrArg not xv))|_=>exact absurd (show false=true from e) dR
  |zN i=>obtain⟨t,rfl⟩:=f;cases y with|zN j=>obtain⟨t',rfl⟩:=d;exact PySem.W.ne_bytes (aZ I q (congrArg not xT))|_=>exact absurd (show false=true from e) dR
  |_=>cases y<;>exact absurd (show false=true from e) dR
theorem B0:lj X (compareOp .Lt) (DG λi j=> .bl (decide (i<j))):=EA λ_ _ _ _ _ _ _ q=>lt_int q
theorem Ms:lj X (compareOp .LtE) (DG λi j=> .bl (decide (i<=j))):=EA λ_ _ _ _ _ _ _ q=>le_int q
theorem v8:lj X (compareOp .Gt) (DG λi j=> .bl (decide (j<i))):=EA λ_ _ _ _ _ _ _ q=>gt_int q
theorem CF:lj X (compareOp .GtE) (DG λi j=> .bl (decide (j<=i))):=EA λ_ _ _ _ _ _ _ q=>ge_int q
theorem aS(b:Expr){op:CmpOp}(h:op≠ .In:=by decide)(h2:op≠ .NotIn:=by decide):behindInMarks op b=false:=by
 have d:(op==CmpOp.In)=false:=by cases op<;>first|rfl|exact absurd rfl h
 have e:(op==CmpOp.NotIn)=false:=by cases op<;>first|rfl|exact absurd rfl h2
 cases b<;>simp[behindInMarks,d,e]
theorem iG{op:CmpOp}{r:R2}(ho:lj X (compareOp op) r)(ha:PE X a ta)(hb:PE X b tb)(hm:behindInMarks op b=false):PE X (.Compare a [op] [b] pos) (LC r ta tb):=by intro pins s σ H Q I h;exact wpAny_Compare1 (IF ha hb I h λv u s2 x y d e f g q=>ho pins s2 σ d x y v u Q e f g q) hm
noncomputable def Mu(t:TE):TT:=λσ H Q=>t σ H λx H'=>∃k,x= .bl k/\Q k H'
theorem aN{op:CmpOp}{r:R2}(ho:lj X (compareOp op) r)(ha:PE X a ta)(hb:PE X b tb)(hm:behindInMarks op b=false):PT X (.Compare a [op] [b] pos) (Mu (LC r ta tb)):=by intro pins s σ H Q I h;refine wpAny_isTrue_Compare1 (bw (ha pins s σ H _ I h) λv s1⟨x,d,i,r1,q1⟩=>bw (hb pins s1 σ d _ i q1) λu s2⟨y,f,j,r2,q2⟩=>bw (ho pins s2 σ f x y v u _ j r1 r2 q2) λc n⟨z,g,l,m,k,e,q3⟩=>?_) hm;subst e;cases m;exact wpAny_truthy_bool ⟨g,l,q3⟩
theorem qI:(sizeLine:Nat)<2^63:=by rw[sizeLine_eq];decide
theorem g_:lj X (binaryOp .Add) (λx y H Q=>∃i j,x= .str i/\y= .str j/\i.length+j.length<=sizeLine/\Q (.str (i++j)) H):=by intro pins s σ H x y v u Q I e f h;obtain⟨i,j,rfl,rfl,d,q⟩:=h;obtain⟨t,rfl⟩:=e;obtain⟨t',rfl⟩:=f;exact add_str (λt' tk=>⟨.str (i++j),H,I.tok _,⟨_,rfl⟩,q⟩) d
theorem vals1{x:V}{us:List Value}(r:Vals [x] us):∃u,us=[u]/\RelV x u:=by cases r with|cons r1 r2=>cases r2;exact⟨_,rfl,r1⟩
theorem yV:kh X (.type "int") (λxs H Q=>(∃i,xs=[.int i]/\Q (.int i) H)\/∃k,xs=[.bl k]/\Q (.int (if k then 1 else 0)) H):=by
 intro pins s σ H xs us Q I r h;rcases h with⟨i,rfl,q⟩|⟨k,rfl,q⟩;·obtain⟨u,rfl,t,rfl⟩:=vals1 r;exact call_int_int ⟨.int i,H,I,⟨_,rfl⟩,q⟩
 ·obtain⟨u,rfl,r1⟩:=vals1 r;cases r1;exact call_int_bool ⟨.int (if k then 1 else 0),H,I.tok _,⟨_,rfl⟩,q⟩
end
structure Hh(h:Heap)(x dx C:Addr)(mA:Str->Option Value):Prop where
 obj:h.get? x=some (PySem.W.instObj C dx)
 ns:h.Ns1 dx mA
 ne:dx≠x
theorem zr{h:Heap}{dx:Addr}{mA:Str->Option Value}(n:h.Ns1 dx mA):∃od,h.get? dx=some od/\∀name,PySem.W.lookIn name od=some (mA name):=by
 obtain⟨o,es,ep,ho,hd,c,_,hm⟩:=n;refine⟨o,ho,λname=>?_⟩;have e:=hm name;unfold nsFind findBy at e;rw[<-Array.find?_toList]at e;unfold PySem.W.lookIn;rw[hd];dsimp only;split;·rename_i y q;rw[q]at e;exact congrArg some e
 ·rename_i q;rw[q]at e;have a:es.toList.any (·.refKey)=false:=by rw[List.any_eq_false];intro y f;obtain⟨z,t,d⟩:=c y (Array.mem_toList_iff.mp f);simp[DictEntry.refKey,d]
  have b:¬es.toList.any (·.refKey)=true:=by rw[a];exact dR
  rw[if_neg b];exact congrArg some e
theorem Hh.look{h:Heap}{x dx C:Addr}{mA:Str->Option Value}(I:Hh h x dx C mA):∃od,PySem.W.InstAt h x (PySem.W.instObj C dx) C (some od)/\∀name,PySem.W.lookIn name od=some (mA name):=let⟨od,ho,hl⟩:=zr I.ns;⟨od,⟨I.obj,rfl,rfl,ho⟩,hl⟩
section
variable{prog:Program}{w:World}{A:Around}{E:Value->Shared->Prop}{s:Shared}{K:PySem.W.Frag}{x dx C f:Addr}{mA:Str->Option Value}{name:Str}{v:Value}
end
theorem jQ.some_of{v:V}{o:Option Value}(r:jQ (some v) o):∃u,o=some u/\RelV v u:=by cases o with|none=>exact(show False from r).elim|some u=>exact⟨u,rfl,r⟩
section
variable{P:Program}{w:World}{H H':Hp}{h h':Heap}{a C dx:Addr}{fs U6:List (Str×V)}
theorem DH(bc:fL P w H h)(e:H a=some (.ins C dx fs)):∃mA,Hh h a dx C mA/\(∀f,jQ (fs.lookup f) (mA f))/\PySem.Within mA (fs.map (·.1))/\fs.length<=1000/\H dx=some (.own a):=by obtain⟨d,z,ne,ob,mA,n,r,q⟩:=(show bC P w H h a (.ins C dx fs)from bc a _ e);exact⟨mA,⟨ob,n,ne⟩,r,q,z,d⟩
end
structure O_(K:PySem.W.Frag)(C:Addr):Prop where
 pg:PySem.W.plainGet K C Str.empty=true
 hd:PySem.W.hasDictIn K C=true
 po:PySem.W.plainOver K C=true
 sa:PySem.W.findIn K (.ref C) "__setattr__"=some (some (.builtin "object.__setattr__"))
theorem O_.get{K:PySem.W.Frag}{C:Addr}(c:O_ K C)(f:Str):PySem.W.plainGet K C f=true:=c.pg
structure Wr(K:PySem.W.Frag)(C:Addr)(f:Str)(v:V)(u:Value):Prop where
 at_:PySem.W.findIn K (.ref C) f=some (some u)
 rel:RelV v u
 get:PySem.W.specialIn K u "__get__"=some none
 cp:PySem.W.copiedNames.contains f=false
structure Meth(K:PySem.W.Frag)(C:Addr)(m:Str)(f:Addr):Prop where
 at_:PySem.W.findIn K (.ref C) m=some (some (.ref f))
 fn:PySem.W.isFn K (.ref f)=true
 kp:PySem.W.keepIn K (.ref f)=true
section
variable{X:Cx}{pins:List (Addr×Obj)}{σ:St}{H:Hp}{s:Shared}{a C dx:Addr}{fs:List (Str×V)}{f:Str}{v:V}{A:Around}{E:Value->Shared->Prop}
end
section
variable{X:Cx}{o e value:Expr}{f:Str}{pos pos' IH:Pos}{ta tv:TE}
end
section
variable{X:Cx}{pins:List (Addr×Obj)}{σ:St}{H:Hp}{s:Shared}{A:Around}{E:Value->Shared->Prop}{Q:Value->Shared->Prop}{c:Value}{b:Bool}
inductive hU(K:PySem.W.Frag)(H:Hp):V->Value->Prop where|a_:hU K H .a_ (.type "NoneType")|bl(x:Bool):hU K H (.bl x) (.type "bool")|int(i:Int):hU K H (.int i) (.type "int")|str(x:Str):hU K H (.str x) (.type "str")|IP(x:UInt64):hU K H (.IP x) (.type "float")|lst{a:Addr}{xs:List V}(e:H a=some (.lst xs)):hU K H (.ref a) (.type "list")|uM{a:Addr}{o:Obj}{xs:List V}(e:H a=some (.uM o (.lst xs))):hU K H (.ref a) (.type "list")|tup{a:Addr}{xs:List V}(e:H a=some (.tup xs)):hU K H (.ref a) (.type "tuple")|dK{a:Addr}{aW:List (Key×V)}(e:H a=some (.dK aW)):hU K H (.ref a) (.type "dict")|dT{a:Addr}{aW:List (List Key×V)}(e:H a=some (.dT aW)):hU K H (.ref a) (.type "dict")|ins{a C dx:Addr}{fs:List (Str×V)}(e:H a=some (.ins C dx fs))(cl:O_ K C)(ha:PySem.W.findIn K (.ref C) "__class__"=some (some (.builtin "object.__class__")))(hn:PySem.W.specialIn K (.builtin "object.__class__") "__get__"=some (some (.builtin "getset_descriptor.__get__")))(Rw:PySem.W.takesIn K (.builtin "object.__class__")=some true)(hm:PySem.W.mroIn K C (.type "object")=some true):hU K H (.ref a) (.ref C)
theorem zD{x:V}{u t:Value}(I:Inv X pins σ H s)(f:RelV x u)(ty:hU X.K H x t)(e:PySem.W.kitOne X.K t c=some b)(h:∀tk,Q (.bool b) {s with toks:=tk}):wpAny (model X.prog X.w) A (call (.builtin "isinstance") [u,c]) Q E s:=by cases ty with|a_=>cases(show u=Value.none from f);exact PySem.W.kia_one PySem.W.kitx_none I.jo True.intro e (λz=>nomatch z) h|bl y=>cases(show u=Value.bool y from f);exact PySem.W.kia_one PySem.W.kitx_bool I.jo True.intro e (λz=>nomatch z) h|int i=>obtain⟨t,q⟩:=(show∃t,u=Value.int i t from f);cases q;exact PySem.W.kia_one PySem.W.kitx_int I.jo True.intro e (λz=>nomatch z) h|str y=>obtain⟨t,q⟩:=(show∃t,u=Value.str y t from f);cases q;exact PySem.W.kia_one PySem.W.kitx_str I.jo True.intro e (λz=>nomatch z) h|IP y=>obtain⟨t,q⟩:=(show∃t,u=Value.float y t from f);cases q;exact PySem.W.kia_one PySem.W.kitx_float I.jo True.intro e (λz=>nomatch z) h|@lst a xs d=>cases(show u=Value.ref a from f);obtain⟨_,_,n,_,h1⟩:=(show bC X.prog X.w H s.heap a (.lst xs)from I.bc a _ d);exact PySem.W.kia_one PySem.W.kitx_list I.jo ⟨_,h1,rfl⟩ e (λz=>nomatch z) h|@uM a ob xs d=>cases(show u=Value.ref a from f);obtain⟨_,_,_,n,_,h1⟩:=(show bC X.prog X.w H s.heap a (.uM ob (.lst xs))from I.bc a _ d);exact PySem.W.kia_one PySem.W.kitx_list I.jo ⟨_,h1,rfl⟩ e (λz=>nomatch z) h|@tup a xs d=>cases(show u=Value.ref a from f);obtain⟨_,_,_,p⟩:=(show bC X.prog X.w H s.heap a (.tup xs)from I.bc a _ d);obtain⟨o,h1,h2,_⟩:=p;exact PySem.W.kia_one PySem.W.kitx_tuple I.jo ⟨o,h1,h2⟩ e (λz=>nomatch z) h|@dK a aW d=>cases(show u=Value.ref a from f);obtain⟨_,_,vs,_,p⟩:=(show bC X.prog X.w H s.heap a (.dK aW)from I.bc a _ d);obtain⟨o,es,ep,h1,h2,_⟩:=p;exact PySem.W.kia_one PySem.W.kitx_dict I.jo ⟨o,h1,h2.1⟩ e (λz=>nomatch z) h|@dT a aW d=>cases(show u=Value.ref a from f);obtain⟨_,_,xs,_,o,es,ep,h1,h2,_⟩:=(show bC X.prog X.w H s.heap a (.dT aW)from I.bc a _ d);exact PySem.W.kia_one PySem.W.kitx_dict I.jo ⟨o,h1,h2.1⟩ e (λz=>nomatch z) h|@ins a C dx fs d cl ha hn Rw hm=>cases(show u=Value.ref a from f);obtain⟨mA,O,_⟩:=DH I.bc d;obtain⟨od,J,_⟩:=O.look;exact PySem.W.kia_one (PySem.W.kitx_own (cl.get _) cl.hd ha hn Rw hm) I.jo J e (λz=>nomatch z) h
end
structure cx(k:Nat)(A:Around):Prop where
 dp:A.depth+3*k+5<recursionLimit
 un:A.units+16*k+200<cLine
 hd:130<=k->A.handled=none
theorem cx.mono{j k:Nat}{A:Around}(r:cx k A)(h:j<=k):cx j A:=⟨by have :=r.dp;lia,by have :=r.un;lia,λz=>r.hd (by lia)⟩
theorem cx.deeper{k:Nat}{A:Around}(r:cx (k+1) A)(env:Env):cx k (A.deeper env):=⟨by have :=r.dp;show A.depth+1+3*k+5<_;lia,by have :=r.un;show A.units+3+16*k+200<_;lia,λz=>r.hd (by lia)⟩
theorem cx.depth{k:Nat}{A:Around}(r:cx k A):A.depth<recursionLimit:=by have :=r.dp;lia
theorem cx.units{k:Nat}{A:Around}(r:cx k A):A.units+64<cLine:=by have :=r.un;lia
noncomputable def M9:TA:=λ_ H Q=>Q [] H
noncomputable def Fz(c:TE)(d:TA):TA:=λσ H Q=>c σ H λx a=>d σ a λxs b=>Q (x::xs) b
section
variable{X:Cx}{e:Expr}{es:List Expr}{te:TE}{t:TA}{pos:Pos}
theorem af:PA X [] M9:=λ_ _ _ _ H Q I h=>Calls.spliced_nil ⟨[],H,I, .nil,h⟩
theorem aa(ha:PE X e te)(hr:PA X es t)(f:starEach (e::es) X.env=(false,eval e X.env)::starEach es X.env:=by rfl):PA X (e::es) (Fz te t):=by intro pos pins s σ H Q I h;rw[f];show wpAny _ _ (spliced ((false,eval e X.env)::backTo pos (starEach es X.env))) _ _ s;refine Calls.spliced_cons (bw (ha pins s σ H _ I h) λu s1 g=>?_);obtain⟨x,a,c,r1,q1⟩:=g;exact bw (hr pos pins s1 σ a _ c q1) λus s2⟨xs,b,d,r2,q2⟩=>⟨x::xs,b,d, .cons r1 r2,q2⟩
noncomputable def Pl(t:TA):TE:=λσ H Q=>t σ H λxs a=>xs.length<=sizeLine/\∀p,a p=none->Q (.ref p) (upd a p (.tup xs))
noncomputable def Qk(t:TA):TE:=λσ H Q=>t σ H λxs a=>xs.length<=sizeLine/\∀p,a p=none->Q (.ref p) (upd a p (.lst xs))
theorem bA{f}(h:PA X es t):PE X (.Tuple es f pos) (Pl t):=by intro pins s σ H Q I hq;refine wpAny_Tuple_spliced (bw (h pos pins s σ H _ I hq) λus s1⟨xs,a,c,r,z,q⟩=>⟨by rw[<-r.length];exact z,?_⟩);have d:a s1.heap.objs.size=none:=c.bc.fresh (zQ04 _);refine⟨.ref s1.heap.objs.size,upd a s1.heap.objs.size (.tup xs),c.laid (t':=s1.toks) (λb u e=>zQ01 _ e) (zQ04 _) ?_,rfl,q _ d⟩;exact⟨z,us,r,⟨_,zQ06 _ rfl,rfl,_,rfl⟩⟩
theorem cD(h:PA X es t):PE X (.List es pos) (Qk t):=by intro pins s σ H Q I hq;refine wpAny_List_spliced (bw (h pos pins s σ H _ I hq) λus s1⟨xs,a,c,r,z,q⟩=>⟨by rw[<-r.length];exact z,?_⟩);have d:a s1.heap.objs.size=none:=c.bc.fresh (zQ04 _);refine⟨.ref s1.heap.objs.size,upd a s1.heap.objs.size (.lst xs),c.laid (t':=s1.toks) (λb u e=>zQ01 _ e) (zQ04 _) ?_,rfl,q _ d⟩;exact⟨z,us,0,r,zQ06 _ rfl⟩
end
noncomputable abbrev Sp:=List V->Hp->VK->XK->Prop
noncomputable abbrev lC:=Option Value->List Env->Hp->Shared->XK->Value->Shared->Prop
structure sZ(P:Program)(w:World)(K:PySem.W.Frag)(mg:Str->Option Value)(base:Heap)(A:Around)(outer:List Env)(s:Shared)(H:Hp):Prop where
 frames:A.frames=some outer
 mod:Mod K mg base
 bs:∀b o,base.get? b=some o->s.heap.get? b=some o/\H b=none
 uF:base.objs.size<=s.heap.objs.size
 eS:s.heap.FunFrames base outer
 zT:∀b∈gu outer,H b=none
 bc:fL P w H s.heap
 bare:AllBare s.gens
 hdl:HB base A
noncomputable def CE(outer:List Env)(P:Program)(w:World)(H:Hp)(s:Shared)(Q:VK)(u:Value)(s':Shared):Prop:=∃v H',s'.os=s.os/\AllBare s'.gens/\Un (gu outer) [] H H' s.heap s'.heap/\fL P w H' s'.heap/\RelV v u/\Q v H'
noncomputable def CR(CX:lC)(hh:Option Value)(outer:List Env)(P:Program)(w:World)(H:Hp)(s:Shared)(Q:VK)(E:XK)(r:Result)(s':Shared):Prop:=match r with| .ok (.ret u)=>CE outer P w H s Q u s'| .ok _=>False| .error e=>CX hh outer H s E e s'
structure g8(P:Program)(w:World)(K:PySem.W.Frag)(mg:Str->Option Value)(base:Heap)(CX:lC)(k:Nat)(f:Addr)(fd:FuncData)(ps:List Str)(sp:Sp):Prop where
 len:∀vs H Q E,sp vs H Q E->vs.length=ps.length
 run:∀(A:Around)(outer:List Env)(s:Shared)(H:Hp)(args:Args)(us:List Value)(vs:List V)(Q:VK)(E:XK),cx k A->sZ P w K mg base A outer s H->BindsTo s fd args (ps.zip us)->Vals vs us->sp vs H Q E->codeAny (model P w) A (.call (.ref f) args) (CR CX A.handled outer P w H s Q E) s
section
variable{X:Cx}{pins:List (Addr×Obj)}{σ:St}{H:Hp}{s s':Shared}
theorem Inv.after{Q:VK}{u:Value}(I:Inv X pins σ H s)(h:CE X.stack X.prog X.w H s Q u s'):EP X pins σ Q u s':=by obtain⟨v,H',os,bare,un,bc,r,q⟩:=h;obtain⟨hh,g,d,t,os'⟩:=s';obtain rfl:os'=s.os:=os;exact⟨v,H',I.call (h':=hh) (g':=g) (d':=d) (t':=t) (ch:=[]) un bc bare (λb z=>absurd z (by simp)),r,q⟩
end
noncomputable def Kx(sp:Sp)(b:List V)(E:XK)(t:TA):TE:=λσ H Q=>t σ H λvs a=>sp (vs++b) a Q E
noncomputable def Binds(K:PySem.W.Frag)(fd:FuncData)(ps:List Str)(ds:List Value):Prop:=∀(s:Shared)(us:List Value),K.In s.heap->(us++ds).length=ps.length->BindsTo s fd ⟨us,[]⟩ (ps.zip (us++ds))
theorem Binds.all{K:PySem.W.Frag}{fd:FuncData}{ps:List Str}(h:∀us:List Value,us.length=ps.length->bindArgs fd ⟨us,[]⟩=pure (ps.zip us)):Binds K fd ps []:=λs us _ hl=>by rw[List.append_nil]at hl⊢;exact .of_eq (h us hl)
def Passes(CX:lC)(X:Cx)(E:XK):Prop:=∀(pins:List (Addr×Obj))(σ:St)(H:Hp)(s:Shared)(e:Value)(s':Shared),Inv X pins σ H s->CX X.A.handled X.stack H s E e s'->X.xe e s'
section
variable{X:Cx}{CX:lC}{k:Nat}{f C:Addr}{fd:FuncData}{ps:List Str}{sp:Sp}{RX:List V}{ds:List Value}{E:XK}{x m:Str}{p pos apos:Pos}{e o:Expr}{es:List Expr}{ta:TE}{t:TA}
end
noncomputable def PK(X:Cx)(a:List Keyword)(t:TA):Prop:=∀(b:Pos)(pins:List (Addr×Obj))(s:Shared)(σ:St)(H:Hp)(Q:List V->Hp->Prop),Inv X pins σ H s->t σ H Q->wpAny (model X.prog X.w) X.A (evalAll ((backToKw b (keywordEach a X.env)).map (·.2))) (AP X pins σ Q) X.xe s
section
variable{X:Cx}{CX:lC}{k:Nat}{f C:Addr}{fd:FuncData}{ps ks:List Str}{sp:Sp}{E:XK}{x m:Str}{p pos apos Pk:Pos}{e o:Expr}{es:List Expr}{ND:List Keyword}{te ta:TE}{t tk:TA}{nm:Option Str}
theorem G6:PK X [] M9:=λ_ _ _ _ H Q I h=>wpAny_evalAll_nil ⟨[],H,I, .nil,h⟩
theorem Ee(ha:PE X e te)(hr:PK X ND t):PK X (⟨nm,e,Pk⟩::ND) (Fz te t):=by intro pos pins s σ H Q I h;show wpAny _ _ (evalAll ((do let v<-eval e X.env;standAt pos;pure v)::(backToKw pos (keywordEach ND X.env)).map (·.2))) _ _ s;refine wpAny_evalAll_cons (zQ00 (bw (ha pins s σ H _ I h) λu s1⟨x,a,c,r1,q1⟩=>zQ00 (wpAny_standAt (zQ02 ?_))));exact bw (hr pos pins s1 σ a _ c q1) λus s2⟨xs,b,d,r2,q2⟩=>⟨x::xs,b,d, .cons r1 r2,q2⟩
end
structure aP(N P:List Str)(sc:Scope):Prop where
 kind:sc.kind= .function
 co:sc.isCoroutine=false
 gen:sc.isGenerator=false
 nd:N.Nodup
 pre:N.take P.length=P
 par:∀x∈P,sc.names.lookup x=some .local\/sc.names.lookup x=some .cell
 GL:∀y∈sc.names,y.2≠ .free
theorem oH{kindOf:Str->Option NameKind}{x:Str}:∀{binds:List (Str×Value)}{m:Str->Option Value},(∀v,(x,v)∉binds)->bindL kindOf binds m x=m x
 |[],_,_=>rfl
 |(n,v)::r,m,h=>by
  unfold bindL;rw[oH λw hw=>h w (c_ _ hw)];split
  ·have :x≠n:=by rintro rfl;exact h v cY
   simp[this]
  ·rfl
theorem n9{kindOf:Str->Option NameKind}{x:Str}:∀{binds:List (Str×Value)}{m:Str->Option Value},(∀v,(x,v)∉binds)->bindC kindOf binds m x=m x
 |[],_,_=>rfl
 |(n,v)::r,m,h=>by
  unfold bindC;rw[n9 λw hw=>h w (c_ _ hw)];split;·rfl
  ·have :x≠n:=by rintro rfl;exact h v cY
   simp[this]
theorem oB{kindOf:Str->Option NameKind}{x:Str}{v:Value}:∀{P:List Str}{vs:List Value}{i:Nat}{m:Str->Option Value},P.Nodup->P[i]?=some x->vs[i]?=some v->kindOf x=some .local->bindL kindOf (P.zip vs) m x=some v|[],_,_,_,_,h,_,_=>by simp at h|_::_,[],_,_,_,_,h,_=>by simp at h|p::P,w::vs,0,m,nd,h1,h2,a=>by simp at h1 h2;subst h1;subst h2;show bindL kindOf ((p,w)::P.zip vs) m p=_;unfold bindL;rw[oH λv hv=>(List.nodup_cons.mp nd).1 (List.of_mem_zip hv).1,if_pos a];simp|p::P,w::vs,i+1,m,nd,h1,h2,a=>by show bindL kindOf ((p,w)::P.zip vs) m x=_;unfold bindL;exact oB (i:=i) (List.nodup_cons.mp nd).2 (by simpa using h1) (by simpa using h2) a
theorem oh{kindOf:Str->Option NameKind}{x:Str}{v:Value}:∀{P:List Str}{vs:List Value}{i:Nat}{m:Str->Option Value},P.Nodup->P[i]?=some x->vs[i]?=some v->kindOf x≠some .local->bindC kindOf (P.zip vs) m x=some v|[],_,_,_,_,h,_,_=>by simp at h|_::_,[],_,_,_,_,h,_=>by simp at h|p::P,w::vs,0,m,nd,h1,h2,a=>by simp at h1 h2;subst h1;subst h2;show bindC kindOf ((p,w)::P.zip vs) m p=_;unfold bindC;rw[n9 λv hv=>(List.nodup_cons.mp nd).1 (List.of_mem_zip hv).1,if_neg a];simp|p::P,w::vs,i+1,m,nd,h1,h2,a=>by show bindC kindOf ((p,w)::P.zip vs) m x=_;unfold bindC;exact oh (i:=i) (List.nodup_cons.mp nd).2 (by simpa using h1) (by simpa using h2) a
noncomputable def start(N:List Str)(vs:List V):St:=vs.map some++List.replicate (N.length-vs.length) none
noncomputable def dW(CX:lC)(P:Program)(w:World)(K:PySem.W.Frag)(mg:Str->Option Value)(base:Heap)(N:List Str)(qual:Str)(scope:Scope)(f:Addr)(cd:Value)(A:Around)(outer:List Env)(s:Shared)(H:Hp)(E:XK):Cx where prog:=P;w:=w;K:=K;mg:=mg;base:=base;A:=A.deeper (envOfC qual scope s.heap.objs.size f cd);N:=N;bG:=s;H₀:=H;env:=envOfC qual scope s.heap.objs.size f cd;outer:=outer;stack:=envOfC qual scope s.heap.objs.size f cd::outer;ex:=[];calm:=true;fn:=λ_=>true;pn:=[];xe:=λe s'=>wpAny (model P w) (A.deeper (envOfC qual scope s.heap.objs.size f cd)) (leaving (envOfC qual scope s.heap.objs.size f cd) e) (λ_ a=>CX A.handled outer H s E e a) (λb a=>CX A.handled outer H s E b a) s'
theorem tH{sc:Scope}{n:Nat}{x:Str}(h:sc.names.lookup x=some .cell):∃c,(cellsFrom n sc.names []).lookup x=some c:=by have q:=PySem.W.cellsFrom_some sc.names n [] (.inl h);exact Option.isSome_iff_exists.mp q
theorem yI{CX:lC}{P:Program}{w:World}{K:PySem.W.Frag}{mg:Str->Option Value}{base:Heap}{N ps:List Str}{qual:Str}{scope:Scope}{f:Addr}{cd:Value}{A:Around}{outer:List Env}{s s1:Shared}{H:Hp}{E:XK}{us:List Value}{vs:List V}(S:aP N ps scope)(d:sZ P w K mg base A outer s H)(hl:vs.length=ps.length)(r:Vals vs us)(x:InCallC s s.heap.objs.size (bindL (envOfC qual scope s.heap.objs.size f cd).kindOf (ps.zip us) λ_=>none) (cellsFrom (s.heap.objs.size+1) scope.names []) (bindC (envOfC qual scope s.heap.objs.size f cd).kindOf (ps.zip us) λ_=>none) s1):Inv (dW CX P w K mg base N qual scope f cd A outer s H E) [] (start N vs) H s1:=by
 have C:ps.length<=N.length:=by have :=congrArg List.length S.pre;rw[List.length_take]at this;lia
 obtain⟨h1,tk,rfl,m⟩:=x.done;have l:∀b:Addr,b∉(dW CX P w K mg base N qual scope f cd A outer s H E).ex:=λb z=>absurd (show b∈([]:List Addr)from z) (by simp);refine⟨⟨d.mod,S.kind,rfl,rfl,zQ04 _,λy z c h1 h2=>?_,λy g=>?_,λy c _ h=>?_,λ_=>d.hdl.R9,Around.frames_deeper d.frames, .inr ⟨rfl,rfl⟩,λb z=>absurd z (l b),d.bs,d.uF,λb _ _=>l b,λb z=>absurd z (l b),d.eS,d.zT⟩,rfl,d.bare,Un.kept m,⟨_,x.toInCall.ns,λi y v h1 h2 h3=>?_⟩,λy c h=>⟨_,x.cell y c h⟩,d.bc.fresh (zQ04 _),λy c h=>?_,λp j=>absurd (show p∈([]:List (Addr×Obj))from j) (by simp),d.bc.kept m,?_⟩;·exact name_of_addr x.apart (PySem.mem_of_lookup h1) (PySem.mem_of_lookup h2)
 ·have g:scope.names.lookup y=some .cell\/scope.names.lookup y=some .free:=g;rcases g with g|g;·exact tH g
  ·exact absurd rfl (S.GL _ (PySem.mem_of_lookup g))
 ·exact Nat.le_of_lt (x.above y c (PySem.mem_of_lookup h))
 ·have hi:i<vs.length:=by
   unfold start at h2;by_cases hi:i<vs.length;·exact hi
   ·rw[List.getElem?_append_right (by simpa using hi)]at h2;rw[List.getElem?_replicate]at h2;split at h2<;>cases h2
  have ha:vs[i]?=some v:=by unfold start at h2;rw[uT (by simpa using hi),fU]at h2;cases e:vs[i]? with|none=>rw[e]at h2;cases h2|some a=>rw[e]at h2;cases h2;rfl
  obtain⟨u,o,B⟩:=r.get ha;have j:ps[i]?=some y:=by rw[<-S.pre,List.getElem?_take_of_lt (by lia)];exact h1
  have t:ps.Nodup:=by rw[<-S.pre];exact S.nd.sublist (List.take_sublist _ _)
  refine⟨u,B,?_⟩;rcases S.par y (List.mem_of_getElem? j)with k|k;·exact .inl ⟨k,oB t j o k⟩
  ·obtain⟨c,e⟩:=tH (n:=s.heap.objs.size+1) k;refine .inr ⟨.inl k,c,e,?_⟩;have q:=x.cell y c e;rw[oh t j o (by show scope.names.lookup y≠_;rw[k];decide)]at q;exact q
 ·exact d.bc.fresh (Nat.le_of_lt (x.above y c (PySem.mem_of_lookup h)))
 ·unfold start;show _=N.length;rw[fK,cT,List.length_replicate];lia
theorem wF{CX:lC}{P:Program}{w:World}{K:PySem.W.Frag}{mg:Str->Option Value}{base:Heap}{k:Nat}{f:Addr}{name qual:Str}{params:Arguments}{body:List Stmt}{scope:Scope}{h kV doc pm cS ct oc:Value}{an od:Option Addr}{uJ:Array (Option Value)}{N ps:List Str}{sp:Sp}(B:K.lookup f=some ⟨oc,od, .func (PySem.W.fnOf name qual params body scope h kV doc pm an cS ct),uJ⟩)(l:PySem.W.codeIn K cS qual=true)(S:aP N ps scope)(len:∀vs H Q E,sp vs H Q E->vs.length=ps.length)(j:∀(A:Around)(outer:List Env)(s:Shared)(H:Hp)(vs:List V)(Q:VK)(E:XK),cx k (A.deeper (envOfC qual scope s.heap.objs.size f cS))->sp vs H Q E->∃t,fY (dW CX P w K mg base N qual scope f cS A outer s H E) body t/\t {nx:=λ_ H'=>Q .a_ H',rt:=Q} (start N vs) H):g8 P w K mg base CX (k+1) f (PySem.W.fnOf name qual params body scope h kV doc pm an cS ct) ps sp:=by
 refine⟨len,λA outer s H args us vs Q E hr c hb r i=>?_⟩;have hl:=len _ _ _ _ i;have KX:K.In s.heap:=c.mod.AS.keeps λb o e=>(c.bs b o e).1;have z:s.heap.NoLimit:=c.mod.nolimit.keeps λb o e=>(c.bs b o e).1;have m:∀y∈ps.zip us,scope.names.lookup y.1=some .local\/(scope.names.lookup y.1=some .cell/\((cellsFrom (s.heap.objs.size+1) scope.names []).lookup y.1).isSome=true):=λ⟨n,v⟩p=>by
  rcases S.par n (List.of_mem_zip p).1 with q|q;·exact .inl q
  ·exact .inr ⟨q,PySem.W.cellsFrom_some _ _ _ (.inl q)⟩
 refine codeAny_call_function hr.depth (KX _ _ B) rfl S.co S.gen rfl (PySem.W.codeRec_of KX l) (hb _ _ _ _ ?_);refine wpAny_newFunctionEnv_cells S.kind m λenv he s1 x=>?_;subst he;refine⟨z.keeps x.toInCall.keep,codeAny_func ?_⟩;obtain⟨t,ht,hq⟩:=j A outer s H vs Q E (hr.deeper _) i;have I:Inv (dW CX P w K mg base N qual scope f cS A outer s H E) [] (start N vs) H s1:=yI S c hl r x;refine d9 (ht [] s1 (start N vs) H _ I hq) (λfl s' a=>?_) λe s' a=>a;have fin:∀{d:St}{H':Hp}{v:V}{u:Value},Inv (dW CX P w K mg base N qual scope f cS A outer s H E) [] d H' s'->RelV v u->Q v H'->CE outer P w H s Q u s':=λ{d H' v u}J g q=>⟨v,H',J.os,J.bare,J.base,J.bc,g,q⟩;cases fl with|ret u=>obtain⟨v,d,H',J,g,q⟩:=a;exact fin J g q|next=>obtain⟨d,H',J,q⟩:=a;exact fin (v:=V.a_) (u:=Value.none) J rfl q|brk=>obtain⟨_,_,_,q⟩:=a;exact False.elim q|cont=>obtain⟨_,_,_,q⟩:=a;exact False.elim q
section
variable{X:Cx}{x:Str}{p pos:Pos}{e:Expr}{es:List Expr}{t:TA}{id T:String}{r:List V->Hp->VK->Prop}
noncomputable def SQ(r:List V->Hp->VK->Prop)(t:TA):TE:=λσ H Q=>t σ H λvs a=>r vs a Q
theorem bK(hc:kh X (.builtin id) r)(d:Gl X x)(hm:X.mg x=none)(hv:bootBuiltins x=some (.builtin id))(ha:PA X (e::es) t)(hn:x≠"__name__":=by decide)(c:(x==("__debug__":Str))=false:=by decide)(he:starEach (e::es) X.env=(false,eval e X.env)::starEach es X.env:=by rfl)(f:(backTo pos (starEach es X.env)).any (·.1)=false:=by rfl):PE X (.Call (.Name x p) (e::es) [] pos) (SQ r t):=by intro pins s σ H Q I h;refine nK (f6 I d hm hv ?_ hn c);exact PyProof.Rows.callWith_builtin1 (bw (ha pos pins s σ H _ I h) λus s1⟨vs,a,b,r1,q1⟩=>hc pins s1 σ a vs us Q b r1 q1) he f
theorem gF(hc:kh X (.type T) r)(d:Gl X x)(hm:X.mg x=none)(hv:bootBuiltins x=some (.type T))(ha:PA X (e::es) t)(hn:x≠"__name__":=by decide)(c:(x==("__debug__":Str))=false:=by decide)(he:starEach (e::es) X.env=(false,eval e X.env)::starEach es X.env:=by rfl)(f:(backTo pos (starEach es X.env)).any (·.1)=false:=by rfl):PE X (.Call (.Name x p) (e::es) [] pos) (SQ r t):=by intro pins s σ H Q I h;refine nK (f6 I d hm hv ?_ hn c);exact PyProof.Rows.callWith_type1 (bw (ha pos pins s σ H _ I h) λus s1⟨vs,a,b,r1,q1⟩=>hc pins s1 σ a vs us Q b r1 q1) he f
end
end L2
end
section
namespace HT
open PySem PyProof.Rows
section
open PySem.SeqAt
open PySem.AutoSeq1(wpAny_loadPart')
open PySem.MeetsSeq PySem.MeetsSeq2 PySem.MeetsSeq3
end
section
variable{prog:Program}{w:World}{A:Around}{E:Value->Shared->Prop}{s:Shared}
theorem Dx{t b:Addr}{vs ws:List Value}{Q:Value->Shared->Prop}(ht:IsTup s.heap t vs.toArray)(hb:IsTup s.heap b ws.toArray)(hv:vs≠[])(h1:ws=[]->Q (.ref t) s)(h2:ws≠[]->Q (.ref s.heap.objs.size) {s with heap:=s.heap.push {cls:= .type "tuple",data:= .seq (vs++ws).toArray}})(j:vs.length+ws.length<=sizeLine):wpAny (model prog w) A (binaryOp .Add (.ref t) (.ref b)) Q E s:=by
 obtain⟨⟨cls,c,data,sl⟩,ho,hc,n,hd⟩:=id ht;obtain⟨⟨k,d,data2,i⟩,a,f,h,g⟩:=id hb;simp only at hc hd f g;subst hc hd f g;have e:vs.toArray++ws.toArray=(vs++ws).toArray:=by simp
 by_cases hw:ws=[];·exact concat_meets ⟨_,ho,rfl⟩ ⟨_,a,rfl⟩ noFill_tuple_add seq_tuple_add PySem.F.slot_tuple_add PySem.F.entry_tuple_add (PySem.F.args_tuple_add_2 _ _) (tuple_addW1 t b vs.toArray ws.toArray n h c d sl i (by simpa using hv) (by simp[hw])) ⟨ho,a,h1 hw⟩
 ·refine concat_meets ⟨_,ho,rfl⟩ ⟨_,a,rfl⟩ noFill_tuple_add seq_tuple_add PySem.F.slot_tuple_add PySem.F.entry_tuple_add (PySem.F.args_tuple_add_2 _ _) (tuple_addW2 t b vs.toArray ws.toArray n h c d sl i (by simpa using hv) (by simpa using hw) (by rw[cG,cG];exact j)) ⟨ho,a,?_⟩;rw[e];exact h2 hw
noncomputable def dP(n d:Nat):Option Int->Nat|none=>d|some v=>if v<0 then(v+(n:Int)).toNat else min v.toNat n
theorem z9(n d:Nat):dP n d none=d:=rfl
theorem EC(n d k:Nat):dP n d (some (k:Int))=min k n:=by show(if(k:Int)<0 then((k:Int)+(n:Int)).toNat else min (k:Int).toNat n)=min k n;rw[if_neg (by lia),Int.toNat_natCast]
theorem G5(n d:Nat)(hd:d<=n)(o:Option Int):dP n d o<=n:=by
 cases o with
  |none=>exact hd
  |some v=>
   show(if v<0 then(v+(n:Int)).toNat else min v.toNat n)<=n;by_cases hv:v<0;·rw[if_pos hv];lia
   ·rw[if_neg hv];exact Nat.min_le_right _ _
theorem wW(v:Int)(n d:Nat):(if v<0 then max (v+(n:Int)) 0 else min v (n:Int))=((dP n d (some v):Nat):Int):=by
 show(if v<0 then max (v+(n:Int)) 0 else min v (n:Int))=(((if v<0 then(v+(n:Int)).toNat else min v.toNat n):Nat):Int);by_cases hv:v<0;·simp only[if_pos hv];lia
 ·simp only[if_neg hv];lia
theorem uZ(lo hi:Option Int)(n:Nat):Builtin.Slice.sliceAdjust lo hi 1 (n:Int)=(((dP n 0 lo:Nat):Int),((dP n n hi:Nat):Int)):=by
 have h1:¬((1:Int)<0):=by lia
 unfold Builtin.Slice.sliceAdjust;simp only[h1,if_false];refine Prod.ext ?_ ?_;·cases lo with|none=>rfl|some v=>exact wW v n 0
 ·cases hi with|none=>rfl|some v=>exact wW v n n
theorem uV(i j:Nat):Builtin.Slice.slicePlaces (i:Int) (j:Int) 1=j-i:=by
 unfold Builtin.Slice.slicePlaces;have h1:(1:Int)>0:=by lia
 simp only[h1,if_true,Int.ediv_one];split<;>lia
theorem mG{v:Value}{o:Option Int}{Q:Option Int->Shared->Prop}(p:IsPart v o)(h:Q o s):wpAny (model prog w) A (Builtin.Slice.slicePartIndex v) Q E s:=by cases p with|none=>exact slicePart_none h|int i t=>exact slicePart_int h
theorem eY{sl:Addr}{c d:Value}{lo hi:Option Int}{n:Nat}{Q:Int×Int×Nat->Shared->Prop}(e:s.heap.IsSliceOf sl c d .none)(f:IsPart c lo)(g:IsPart d hi)(h:Q (((dP n 0 lo:Nat):Int),1,dP n n hi-dP n 0 lo) s):wpAny (model prog w) A (Builtin.Slice.sliceApplied (.ref sl) (pure (n:Int))) Q E s:=by obtain⟨os,b,i,a⟩:=id e;unfold Builtin.Slice.sliceApplied Builtin.Slice.sliceFields;refine zQ00 (zQ00 (cQ b a (x:=c) rfl (zQ00 (cQ b a (x:=d) rfl (zQ00 (cQ b a (x:= .none) rfl (zQ02 ?_)))))));refine zQ00 (slicePart_none ?_);show wpAny _ _ (if((1:Int)==0)=true then _ else _) _ _ s;rw[if_neg (by decide)];refine zQ00 (mG f (zQ00 (mG g (zQ00 (zQ02 ?_)))));show wpAny _ _ (match Builtin.Slice.sliceAdjust lo hi 1 (n:Int)with|(lo,hi)=>pure (lo,(1:Int),Builtin.Slice.slicePlaces lo hi 1)) _ _ s;rw[uZ lo hi n];show wpAny _ _ (pure (((dP n 0 lo:Nat):Int),(1:Int),Builtin.Slice.slicePlaces ((dP n 0 lo:Nat):Int) ((dP n n hi:Nat):Int) 1)) _ _ s;rw[uV];exact zQ02 h
theorem CS(xs:Array Value)(i k:Nat):((List.range k).filterMap λ(m:Nat)=>xs[((i:Int)+(m:Int)*1).toNat]?).toArray=((xs.toList.drop i).take k).toArray:=by
 have e:(λ(m:Nat)=>xs[((i:Int)+(m:Int)*1).toNat]?)=λm=>xs[i+m]?:=by
  funext m;have :((i:Int)+(m:Int)*1).toNat=i+m:=by lia
  rw[this]
 rw[e];have :=pick_run xs i k;rw[List.filterMap_map]at this;have a:((λx=>xs[x]?)∘λx=>i+x)=λm=>xs[i+m]?:=rfl;rw[a]at this;rw[this]
theorem i5{t sl:Addr}{items:Array Value}{c d:Value}{lo hi:Option Int}{Q:Value->Shared->Prop}(ht:IsTup s.heap t items)(b:s.heap.IsSliceOf sl c d .none)(j:IsPart c lo)(k:IsPart d hi)(hw:¬(dP items.size 0 lo=0/\dP items.size items.size hi=items.size))(h:Q (.ref s.heap.objs.size) {s with heap:=s.heap.push {cls:= .type "tuple",data:= .seq ((items.toList.drop (dP items.size 0 lo)).take (dP items.size items.size hi-dP items.size 0 lo)).toArray}})(n:items.size<=sizeLine):wpAny (model prog w) A (getItem (.ref t) (.ref sl)) Q E s:=by
 have a:sizeOk (.seq ((items.toList.drop (dP items.size 0 lo)).take (dP items.size items.size hi-dP items.size 0 lo)).toArray):=by show((items.toList.drop (dP items.size 0 lo)).take (dP items.size items.size hi-dP items.size 0 lo)).toArray.size<=sizeLine;rw[cG,List.length_take,List.length_drop,Array.length_toList];lia
 have hj:dP items.size items.size hi<=items.size:=G5 _ _ (zQ04 _) hi;obtain⟨os,i,f,l⟩:=id b;have e:s.TypeIs (.ref sl) "slice":=⟨os,i,f⟩;unfold getItem;try with_reducible refine eh ?_
 first|refine zQ00 (zQ02 ?_)|skip
 refine zQ00 (wpAny_sequenceKey ht.typeIs (by decide) ?_);refine zQ00 (wpAny_callSpecial?_slot (name:=Str.ofString "__getitem__") ht.typeIs PyProof.Rows.slot_tuple_getitem (fF PyProof.Rows.slot_tuple_getitem ht.typeIs entry_tuple_getitem ?_ (args_tuple_getitem _ _)));show wpAny _ _ (Builtin.Tuple.tupleItemsOf (.ref t)>>=_) _ _ s;refine zQ00 (tupleItemsOf_ ht ?_);refine zQ00 (wpAny_typeOf e ?_);rw[if_pos (by decide)];refine zQ00 (eY b j k ?_);have g:¬((((dP items.size 0 lo:Nat):Int)==0&&(1:Int)==1&&(dP items.size items.size hi-dP items.size 0 lo)==items.size)=true):=by intro q;rw[cw,cw]at q;have q1:((dP items.size 0 lo:Nat):Int)=0:=eq_of_beq q.1.1;have q2:dP items.size items.size hi-dP items.size 0 lo=items.size:=eq_of_beq q.2;exact hw ⟨by lia,by lia⟩
 show wpAny _ _ (if(((dP items.size 0 lo:Nat):Int)==0&&(1:Int)==1&&(dP items.size items.size hi-dP items.size 0 lo)==items.size)=true then _ else _) _ _ s;rw[if_neg g,CS];first|exact zQ00 (m:=Builtin.Tuple.tupleExact _) (gL (zQ02 ⟨_,rfl,zQ02 h⟩) a)|exact zQ00 (m:=Builtin.Tuple.tupleExact _) (gL (zQ00 (zQ02 (zQ02 ⟨_,rfl,zQ02 h⟩))) a)|exact zQ00 (zQ00 (m:=Builtin.Tuple.tupleExact _) (gL (zQ02 (zQ02 ⟨_,rfl,zQ02 h⟩)) a))|exact zQ00 (zQ00 (m:=Builtin.Tuple.tupleExact _) (gL (zQ02 ⟨_,rfl,zQ02 h⟩) a))
end
end HT
end
section
namespace L2
open PySem PySem.Spec PyProof.Rows
noncomputable abbrev TO:=St->Hp->(Option Int->Hp->Prop)->Prop
noncomputable def PO(X:Cx)(e:Option Expr)(t:TO):Prop:=∀(pins:List (Addr×Obj))(s:Shared)(σ:St)(H:Hp)(Q:Option Int->Hp->Prop),Inv X pins σ H s->t σ H Q->wpAny (model X.prog X.w) X.A (evalPart e X.env) (λu s'=>∃o H',Inv X pins σ H' s'/\IsPart u o/\Q o H') X.xe s
noncomputable def EE:TO:=λ_ H Q=>Q none H
noncomputable def K_(t:TE):TO:=λσ H Q=>t σ H λx a=>∃i,x= .int i/\Q (some i) a
section
variable{X:Cx}{e:Expr}{te:TE}{lo hi:Option Expr}{tl th:TO}{pos p2:Pos}
theorem dA:PO X none EE:=by intro pins s σ H Q I h;rw[evalPart_none];exact zQ02 ⟨none,H,I, .none,h⟩
theorem fk(h:PE X e te):PO X (some e) (K_ te):=by intro pins s σ H Q I hw;rw[evalPart_some];refine bw (h pins s σ H _ I hw) λu s1 c=>?_;obtain⟨x,a,b,r1,q1⟩:=c;obtain⟨i,rfl,q⟩:=q1;obtain⟨t,rfl⟩:=r1;exact⟨some i,a,b, .int i t,q⟩
noncomputable def Py(X:Cx)(r:V->Option Int->Option Int->Hp->VK->Prop):Prop:=∀(pins:List (Addr×Obj))(s:Shared)(σ:St)(H:Hp)(x:V)(v a b:Value)(lo hi:Option Int)(sl:Addr)(Q:VK),Inv X pins σ H s->RelV x v->s.heap.IsSliceOf sl a b .none->IsPart a lo->IsPart b hi->r x lo hi H Q->∃T id,typeLookup (.type T) "__getitem__"=pure (some (.builtin id))/\s.TypeIs v T/\wpAny (model X.prog X.w) X.A (getItem v (.ref sl)) (EP X pins σ Q) X.xe s
noncomputable def UM(r:V->Option Int->Option Int->Hp->VK->Prop)(te:TE)(tl th:TO):TE:=λσ H Q=>te σ H λx a=>tl σ a λl b=>th σ b λu c=>r x l u c Q
theorem BQ{r:V->Option Int->Option Int->Hp->VK->Prop}(hr:Py X r)(he:PE X e te)(hl:PO X lo tl)(t:PO X hi th):PE X (.Subscript e (.Slice lo hi none p2) pos) (UM r te tl th):=by intro pins s σ H Q I h;refine Subscript_ (bw (he pins s σ H _ I h) λv s1 f=>?_);obtain⟨x,i,k,r1,q1⟩:=f;refine wpAny_Slice (bw (hl pins s1 σ i _ k q1) λc s2⟨l,j,m,w,q2⟩=>bw (t pins s2 σ j _ m q2) λd a f=>?_);obtain⟨u,g,n,y,q3⟩:=f;rw[evalPart_none];refine zQ02 ?_;have o:Inv X pins σ g {a with heap:=a.heap.push {cls:= .type "slice",data:= .fields #[c,d, .none]}}:=n.kept (t':=a.toks) λb ob q=>zQ01 _ q;obtain⟨T,id,hT,ht,p⟩:=hr pins {a with heap:=a.heap.push {cls:= .type "slice",data:= .fields #[c,d, .none]}} σ g x v c d l u a.heap.objs.size Q o r1 (Heap.IsSliceOf.new ..) w y q3;show wpAny (model X.prog X.w) X.A (subscriptTail e (.Slice lo hi none p2) v (.ref a.heap.objs.size)) (EP X pins σ Q) X.xe {a with heap:=a.heap.push {cls:= .type "slice",data:= .fields #[c,d, .none]}};exact tail_any (ops:=[.ref a.heap.objs.size,v]) ht hT p (by with_unfolding_all rfl)
noncomputable def nu(xs:List V)(lo hi:Option Int):List V:=(xs.drop (HT.dP xs.length 0 lo)).take (HT.dP xs.length xs.length hi-HT.dP xs.length 0 lo)
theorem uq(xs:List V)(lo hi:Option Int):(nu xs lo hi).length<=xs.length:=by unfold nu;rw[List.length_take,List.length_drop];lia
noncomputable def OB(K:PySem.W.Frag):V->Option Int->Option Int->Hp->VK->Prop:=λx lo hi H Q=>∃a xs,x= .ref a/\d8 K H a xs/\¬(HT.dP xs.length 0 lo=0/\HT.dP xs.length xs.length hi=xs.length)/\∀p,H p=none->Q (.ref p) (upd H p (.tup (nu xs lo hi)))
theorem Ha:Py X (OB X.K):=by
 intro pins s σ H x v l m lo hi sl Q I k d i j h;obtain⟨a,xs,rfl,f,hw,q⟩:=h;cases k;obtain⟨g,r,ht,c⟩:=I.tuple f;have hlen:g.toArray.size=xs.length:=by rw[cG];exact r.length.symm
 refine⟨"tuple",_,PyProof.Rows.slot_tuple_getitem.lookup,ht.typeIs,?_⟩;refine HT.i5 ht d i j (by rw[hlen];exact hw) ?_ (by rw[hlen];exact c);rw[hlen];refine⟨.ref s.heap.objs.size,_,I.laid (t':=s.toks) (o:= .tup (nu xs lo hi)) (λb ob q=>zQ01 _ q) (zQ04 _) ?_,rfl,q _ (I.bc.fresh (zQ04 _))⟩;exact⟨cu (uq xs lo hi) c,_,(r.drop (HT.dP xs.length 0 lo)).take (HT.dP xs.length xs.length hi-HT.dP xs.length 0 lo),IsTup.new _ _⟩
noncomputable def MB(K:PySem.W.Frag):R2:=λx y H Q=>∃a b xs c,x= .ref a/\y= .ref b/\d8 K H a xs/\d8 K H b c/\xs≠[]/\xs.length+c.length<=sizeLine/\(c=[]->Q (.ref a) H)/\(c≠[]->∀p,H p=none->Q (.ref p) (upd H p (.tup (xs++c))))
theorem Vals.lD{xs:List V}{us:List Value}(r:Vals xs us):us=[]↔xs=[]:=by cases r with|nil=>simp|cons _ _=>simp
theorem DJ:lj X (binaryOp .Add) (MB X.K):=by intro pins s σ H x y v u Q I g i h;obtain⟨a,b,xs,j,rfl,rfl,ha,hb,d,c,q1,q2⟩:=h;cases g;cases i;obtain⟨k,r1,f,_⟩:=I.tuple ha;obtain⟨l,r2,p2,_⟩:=I.tuple hb;refine HT.Dx f p2 (λz=>d (r1.lD.mp z)) (λz=>⟨.ref a,H,I,rfl,q1 (r2.lD.mp z)⟩) (λz=>?_) (by rw[<-r1.length,<-r2.length];exact c);refine⟨.ref s.heap.objs.size,_,I.laid (t':=s.toks) (o:= .tup (xs++j)) (λb ob q=>zQ01 _ q) (zQ04 _) ?_,rfl,q2 (λw=>z (r2.lD.mpr w)) _ (I.bc.fresh (zQ04 _))⟩;exact⟨by rw[fK];exact c,_,r1.append r2,IsTup.new _ _⟩
end
noncomputable def Hd(n:Nat)(i:Int):Option Nat:=if 0<=i then(if i<n then some i.toNat else none)else if-(n:Int)<=i then some (i+n).toNat else none
noncomputable def rO{a:Type}(xs:List a)(i:Int):Option a:=(Hd xs.length i).bind λj=>xs[j]?
theorem xE{n:Nat}{i:Int}{j:Nat}(h:Hd n i=some j):seqIndex? i n=some j/\j<n/\-(n:Int)<=i/\i<n:=by
 unfold Hd at h;by_cases a:0<=i
 ·rw[if_pos a]at h;by_cases h1:i<n;·rw[if_pos h1]at h;have e:i.toNat=j:=Option.some.inj h;exact⟨by rw[seqIndex_of a h1,e],by lia,by lia,h1⟩
  ·rw[if_neg h1]at h;cases h
 ·rw[if_neg a]at h;by_cases h1:-(n:Int)<=i;·rw[if_pos h1]at h;have e:(i+n).toNat=j:=Option.some.inj h;exact⟨by rw[seqIndex_neg (by lia) h1,e],by lia,h1,by lia⟩
  ·rw[if_neg h1]at h;cases h
theorem xF{a:Type}{xs:List a}{i:Int}{v:a}(h:rO xs i=some v):∃j,seqIndex? i xs.length=some j/\xs[j]?=some v/\j<xs.length/\-(xs.length:Int)<=i/\i<xs.length:=by unfold rO at h;cases e:Hd xs.length i with|none=>rw[e]at h;cases h|some j=>rw[e]at h;obtain⟨h1,h2,h3,h4⟩:=xE e;exact⟨j,h1,h,h2,h3,h4⟩
theorem bF{a:Type}{xs:List a}{j:Nat}{v:a}(h:xs[j]?=some v):rO xs (j:Int)=some v:=by
 have hj:j<xs.length:=(List.getElem?_eq_some_iff.mp h).1;have e:Hd xs.length (j:Int)=some j:=by unfold Hd;rw[if_pos (by lia),if_pos (by lia)];simp
 unfold rO;rw[e];exact h
def Ec(b:Expr):Prop:=∀o i,subscripted b false o i=operate [o,i] (getItem o i)
noncomputable def N1(X:Cx)(r:R2):Prop:=∀(value slice:Expr)(pins:List (Addr×Obj))(s:Shared)(σ:St)(H:Hp)(x y:V)(v u:Value)(Q:VK),Inv X pins σ H s->RelV x v->RelV y u->r x y H Q->subscripted slice false v u=operate [v,u] (getItem v u)->wpAny (model X.prog X.w) X.A (subscriptTail value slice v u) (EP X pins σ Q) X.xe s
noncomputable def Ug(X:Cx)(id:String)(r:V->List V->Hp->VK->Prop):Prop:=∀(pins:List (Addr×Obj))(s:Shared)(σ:St)(H:Hp)(x:V)(xs:List V)(v:Value)(us:List Value)(Q:VK),Inv X pins σ H s->RelV x v->Vals xs us->r x xs H Q->wpAny (model X.prog X.w) X.A (call (.builtin id) (v::us)) (EP X pins σ Q) X.xe s
section
variable{X:Cx}{a b:Expr}{ta tb:TE}{pos:Pos}
theorem bY{r:R2}(hr:N1 X r)(ha:PE X a ta)(hb:PE X b tb)(e:Ec b):PE X (.Subscript a b pos) (LC r ta tb):=by intro pins s σ H Q I h;exact Subscript_ (IF ha hb I h λv u s2 x y c d f g q=>hr a b pins s2 σ c x y v u Q d f g q (e _ _))
noncomputable def O8(K:PySem.W.Frag):R2:=λx y H Q=>∃p xs i v,x= .ref p/\y= .int i/\bO K H p xs/\rO xs i=some v/\Q v H
noncomputable def Kn(K:PySem.W.Frag):R2:=λx y H Q=>∃p xs i v,x= .ref p/\y= .int i/\d8 K H p xs/\rO xs i=some v/\Q v H
theorem dy:N1 X (O8 X.K):=by
 intro value slice pins s σ H x y v u Q I l m h f;obtain⟨p,xs,i,z,rfl,rfl,hq,he,q⟩:=h;cases l;obtain⟨t,rfl⟩:=m;obtain⟨g,r,c,n⟩:=I.list hq;obtain⟨j,h1,h2,h3,h4,h5⟩:=xF he;obtain⟨w,d,k⟩:=r.get h2;have hl:=r.length;have hn:=qI;have fin:EP X pins σ Q w s:=⟨z,H,I,k,q⟩;by_cases e:0<=i
 ·have hj:i.toNat=j:=by rw[seqIndex_of e h5]at h1;exact Option.some.inj h1
  exact item_listR c.isList e (by lia) (by rw[hj];simpa using d) fin f
 ·have hj:(i+(g.toArray.size:Int)).toNat=j:=by rw[seqIndex_neg (by lia) h4]at h1;rw[cG,<-hl];exact Option.some.inj h1
  exact subscriptTail_builtinR (x:=w) c.isList.typeIs slot_list_getitem.lookup (wpAny_getItem_list_neg (Q:=λr s'=>r=w/\EP X pins σ Q r s') c.isList (by lia) (by rw[cG]<;>lia) (by lia) (by rw[hj];simpa using d) ⟨rfl,fin⟩) f
theorem da:N1 X (Kn X.K):=by intro value slice pins s σ H x y v u Q I g k h e;obtain⟨p,xs,i,z,rfl,rfl,hq,he,q⟩:=h;cases g;obtain⟨t,rfl⟩:=k;obtain⟨m,r,c,l⟩:=I.tuple hq;obtain⟨j,h1,h2,h3,h4,h5⟩:=xF he;obtain⟨w,d,f⟩:=r.get h2;have hl:=r.length;have hn:=qI;have fin:EP X pins σ Q w s:=⟨z,H,I,f,q⟩;exact subscriptTail_builtinR (x:=w) c.typeIs slot_tuple_getitem.lookup (getItem_tuple (j:=j) (Q:=λr s'=>r=w/\EP X pins σ Q r s') c (by lia) (by lia) (by rw[cG,<-hl];exact h1) (by simpa using d) ⟨rfl,fin⟩) e
theorem vP(c:List Value)(n j:Nat)(u:Value):Obj.mapSeq (·.setIfInBounds j u) {cls:= .type "list",data:= .seq c.toArray n}={cls:= .type "list",data:= .seq (c.set j u).toArray n}:=by simp[Obj.mapSeq]
theorem Inv.lst{pins:List (Addr×Obj)}{σ:St}{H:Hp}{s:Shared}{p:Addr}{xs:List V}(I:Inv X pins σ H s)(h:H p=some (.lst xs)):∃(c:List Value)(n:Nat),Vals xs c/\s.heap.get? p=some {cls:= .type "list",data:= .seq c.toArray n}/\xs.length<=sizeLine:=by obtain⟨z,c,n,r,e⟩:=I.bc p _ h;exact⟨c,n,r,e,z⟩
theorem Inv.G8{pins:List (Addr×Obj)}{σ:St}{H:Hp}{s:Shared}{p:Addr}{xs d:List V}{i its':List Value}{n c:Nat}{f:Obj->Obj}(I:Inv X pins σ H s)(h:H p=some (.lst xs))(ho:s.heap.get? p=some {cls:= .type "list",data:= .seq i.toArray n})(g:f {cls:= .type "list",data:= .seq i.toArray n}={cls:= .type "list",data:= .seq its'.toArray c})(r:Vals d its')(j:d.length<=sizeLine)(t:Nat):Inv X pins σ (upd H p (.lst d)) {s with heap:=s.heap.update p f,toks:=t}:=by
 have e:(s.heap.update p f).get? p=some {cls:= .type "list",data:= .seq its'.toArray c}:=by rw[kX f ho (by rw[g]<;>rfl),g]
 refine I.write (x:=p) (e:=p) (by rw[h];trivial) (.inl rfl) (λb u hb q=>(fH _ _ (Ne.symm hb)).trans q) ⟨_,e⟩ ?_;exact⟨j,its',c,r,e⟩
noncomputable def Mq:V->V->V->Hp->(Hp->Prop)->Prop:=λo i v H Q=>∃p xs k j,o= .ref p/\i= .int k/\H p=some (.lst xs)/\Hd xs.length k=some j/\Q (upd H p (.lst (xs.set j v)))
theorem set_list:L4 X Mq:=by
 intro pins s σ H o i v x w u Q I ro ri m h;obtain⟨p,xs,k,j,rfl,rfl,f,hj,q⟩:=h;cases ro;obtain⟨t,rfl⟩:=ri;obtain⟨g,n,r,ho,l⟩:=I.lst f;obtain⟨h1,h2,h3,h4⟩:=xE hj;have hl:=r.length;have hn:=qI;have d:Inv X pins σ (upd H p (.lst (xs.set j v))) {s with heap:=s.heap.update p (Obj.mapSeq (·.setIfInBounds j u))}:=I.G8 f ho (vP g n j u) (r.set m j) (by rw[List.length_set];exact l) s.toks;by_cases e:0<=k
 ·have c:k.toNat=j:=by rw[seqIndex_of e h4]at h1;exact Option.some.inj h1
  exact PySem.W.ki_setAt ho e (by lia) (by rw[cG,<-hl];exact h4) (by rw[c];exact⟨_,d,q⟩)
 ·have c:(k+(g.toArray.size:Int)).toNat=j:=by rw[seqIndex_neg (by lia) h3]at h1;rw[cG,<-hl];exact Option.some.inj h1
  exact PySem.W.ki_setBack ho (by lia) (by rw[cG,<-hl];exact h3) (by lia) (by rw[c];exact⟨_,d,q⟩)
noncomputable def fC:V->Bool| .a_=>true| .bl _=>true| .int _=>true| .str _=>true|_=>false
noncomputable def AF:V->V->Bool| .a_, .a_=>true| .bl a, .bl b=>a==b| .bl a, .int b=>(if a then 1 else 0)==b| .int a, .bl b=>a==(if b then 1 else 0)| .int a, .int b=>a==b| .str a, .str b=>a==b|_,_=>false
theorem CT{A:Around}{s:Shared}{y x:V}{u v:Value}(e:RelV y u)(c:RelV x v)(f:fC y=true)(d:fC x=true):SeqAt.EqAt A s u v (AF y x):=by
 cases y with
  |a_=>cases e;cases x with|a_=>cases c;exact SeqAt.EqAt.same _|bl b=>cases c;exact SeqAt.EqAt.none_bool b|int b=>obtain⟨t,rfl⟩:=c;exact SeqAt.EqAt.none_int b t|str b=>obtain⟨t,rfl⟩:=c;exact SeqAt.EqAt.none_str b t|_=>exact absurd (show false=true from d) dR
  |bl a=>cases e;cases x with|a_=>cases c;exact SeqAt.EqAt.bool_none a|bl b=>cases c;exact SeqAt.EqAt.bool_bool a b|int b=>obtain⟨t,rfl⟩:=c;exact SeqAt.EqAt.bool_int a b t|str b=>obtain⟨t,rfl⟩:=c;exact SeqAt.EqAt.bool_str a b t|_=>exact absurd (show false=true from d) dR
  |int a=>obtain⟨t',rfl⟩:=e;cases x with|a_=>cases c;exact SeqAt.EqAt.int_none a t'|bl b=>cases c;exact SeqAt.EqAt.int_bool a t' b|int b=>obtain⟨t,rfl⟩:=c;exact SeqAt.EqAt.int_int a t' b t|str b=>obtain⟨t,rfl⟩:=c;exact SeqAt.EqAt.int_str a t' b t|_=>exact absurd (show false=true from d) dR
  |str a=>obtain⟨t',rfl⟩:=e;cases x with|a_=>cases c;exact SeqAt.EqAt.str_none a t'|bl b=>cases c;exact SeqAt.EqAt.str_bool a t' b|int b=>obtain⟨t,rfl⟩:=c;exact SeqAt.EqAt.str_int a t' b t|str b=>obtain⟨t,rfl⟩:=c;exact SeqAt.EqAt.str_str a t' b t|_=>exact absurd (show false=true from d) dR
  |_=>exact absurd (show false=true from f) dR
noncomputable def D9(x:V)(u:Value):Bool:=match u with| .none=>AF .a_ x| .bool b=>AF (.bl b) x| .int i _=>AF (.int i) x| .str z _=>AF (.str z) x|_=>false
theorem Aw{x y:V}{u:Value}(r:RelV y u)(f:fC y=true):D9 x u=AF y x:=by cases y with|a_=>cases r;rfl|bl b=>cases r;rfl|int i=>obtain⟨t,rfl⟩:=r;rfl|str z=>obtain⟨t,rfl⟩:=r;rfl|_=>exact absurd (show false=true from f) dR
theorem rl{x:V}:∀{xs:List V}{us:List Value},Vals xs us->xs.all fC=true->us.any (D9 x)=xs.any λy=>AF y x|_,_, .nil,_=>rfl|y::xs,u::us, .cons r t,f=>by rw[List.all_cons,cw]at f;rw[List.any_cons,List.any_cons,Aw r f.1,rl t f.2]
theorem lM{A:Around}{s:Shared}{x:V}{v:Value}(e:RelV x v)(d:fC x=true):∀{xs:List V}{us:List Value},Vals xs us->xs.all fC=true->∀u∈us,SeqAt.EqAt A s u v (D9 x u)
 |_,_, .nil,_=>λu c=>by cases c
 |y::xs,u::us, .cons r t,f=>λg c=>by
  rw[List.all_cons,cw]at f;rcases List.mem_cons.mp c with rfl|c;·rw[Aw r f.1];exact CT r e f.1 d
  ·exact lM e d t f.2 g c
noncomputable def JM(x:V)(xs:List V):Bool:=xs.any λy=>AF y x
noncomputable def Wc(K:PySem.W.Frag)(neg:Bool):R2:=λx y H Q=>∃p xs,y= .ref p/\(bO K H p xs\/d8 K H p xs)/\fC x=true/\xs.all fC=true/\Q (.bl (if neg then !JM x xs else JM x xs)) H
theorem ze:lj X (compareOp .In) (Wc X.K false):=by
 intro pins s σ H x y v u Q I f i h;obtain⟨p,xs,rfl,hq,e,fs,q⟩:=h;cases i;rcases hq with hq|hq;·obtain⟨c,r,d,g⟩:=I.list hq;refine SeqAt.in_listAt (D9 x) d.isList (λw hw=>lM f e r fs w (by simpa using hw)) ⟨.bl _,H,I,rfl,?_⟩;rw[show c.toArray.any (D9 x)=c.any (D9 x)by simp,rl r fs];exact q
 ·obtain⟨c,r,d,g⟩:=I.tuple hq;refine SeqAt.in_tupleAt (D9 x) d (λw hw=>lM f e r fs w (by simpa using hw)) ⟨.bl _,H,I,rfl,?_⟩;rw[show c.toArray.any (D9 x)=c.any (D9 x)by simp,rl r fs];exact q
theorem bB:kh X (.builtin "len") (λxs H Q=>∃p c,xs=[.ref p]/\(bO X.K H p c\/d8 X.K H p c)/\Q (.int c.length) H):=by
 intro pins s σ H xs us Q I r h;obtain⟨p,c,rfl,hq,q⟩:=h;obtain⟨u,rfl,i⟩:=vals1 r;cases i;have hn:=qI;rcases hq with hq|hq;·obtain⟨g,e,d,f⟩:=I.list hq;have hlen:=e.length;exact Calls.call_len_list d.isList (by simp only[cG]<;>lia) ⟨.int c.length,H,I.tok _,⟨s.toks+1,by rw[cG,hlen]⟩,q⟩
 ·obtain⟨g,e,d,f⟩:=I.tuple hq;have hlen:=e.length;exact len_tuple d (by simp only[cG]<;>lia) ⟨.int c.length,H,I.tok _,⟨s.toks+1,by rw[cG,hlen]⟩,q⟩
theorem oZ:kh X (.type "list") (λxs H Q=>∃p g,xs=[.ref p]/\(bO X.K H p g\/d8 X.K H p g)/\∀l,H l=none->Q (.ref l) (upd H l (.lst g))):=by
 intro pins s σ H xs us Q I r h;obtain⟨p,g,rfl,hq,q⟩:=h;obtain⟨u,rfl,k⟩:=vals1 r;cases k;have fin:∀(c:List Value),Vals g c->g.length<=sizeLine->∀(h':Heap)(d:Nat),(∀b o',s.heap.get? b=some o'->h'.get? b=some o')->h'.get? s.heap.objs.size=some {cls:= .type "list",dict:=none,data:= .seq c.toArray d,slots:=#[]}->EP X pins σ Q (.ref s.heap.objs.size) {s with heap:=h'}:=λc f i h' d kp e=>⟨.ref s.heap.objs.size,_,I.laid (t':=s.toks) kp (zQ04 _) (show bC X.prog X.w _ h' _ (.lst g)from⟨i,c,d,f,e⟩),rfl,q _ (I.bc.fresh (zQ04 _))⟩;rcases hq with hq|hq;·obtain⟨c,f,j,i⟩:=I.list hq;have hlen:=f.length;obtain⟨o,ho,hc,n,hd⟩:=j.isList;exact call_list_seq p (.inl rfl) ho hc hd (λh' d kp e=>fin c f i h' d kp e) (by simp only[cG]<;>lia)
 ·obtain⟨c,f,j,i⟩:=I.tuple hq;have hlen:=f.length;obtain⟨o,ho,hc,n,hd⟩:=j;exact call_list_seq p (.inr rfl) ho hc hd (λh' d kp e=>fin c f i h' d kp e) (by simp only[cG]<;>lia)
theorem gX:kh X (.type "tuple") (λxs H Q=>∃p c,xs=[.ref p]/\((bO X.K H p c/\∀l,H l=none->Q (.ref l) (upd H l (.tup c)))\/(d8 X.K H p c/\Q (.ref p) H))):=by
 intro pins s σ H xs us Q I r h;obtain⟨p,c,rfl,h⟩:=h;obtain⟨u,rfl,m⟩:=vals1 r;cases m;rcases h with⟨hq,q⟩|⟨hq,q⟩;·obtain⟨d,g,f,j⟩:=I.list hq;have hlen:=g.length;refine call_tuple_list f.isList (λh' kp=>?_) (by simp only[cG]<;>lia);have i:Inv X pins σ H {s with heap:=h'}:=I.kept (t':=s.toks) kp;have k:Inv X pins σ (upd H h'.objs.size (.tup c)) {s with heap:=h'.push {cls:= .type "tuple",data:= .seq d.toArray}}:=i.laid (t':=s.toks) (λb o e=>zQ01 _ e) (zQ04 _) (show bC X.prog X.w _ _ _ (.tup c)from⟨j,d,g,IsTup.new _ _⟩);exact⟨.ref h'.objs.size,_,k,rfl,q _ (i.bc.fresh (zQ04 _))⟩
 ·obtain⟨d,g,f,j⟩:=I.tuple hq;exact call_tuple_same f ⟨.ref p,H,I,rfl,q⟩
def RC(K:PySem.W.Frag)(T:String)(x:V)(H:Hp):Prop:=match x with| .str _=>T="str"| .int _=>T="int"| .ref p=>(T="list"/\∃xs,bO K H p xs)\/(T="tuple"/\∃o,K.lookup p=some o/\o.cls= .type "tuple"/\o.dict=none)\/(T="dict"/\((∃aW,H p=some (.dK aW))\/∃aW,H p=some (.dT aW)))\/(T="set"/\∃S n,H p=some (.set S n))|_=>False
theorem JG{pins:List (Addr×Obj)}{σ:St}{H:Hp}{s:Shared}{T:String}{x:V}{v:Value}(I:Inv X pins σ H s)(r:RelV x v)(ty:RC X.K T x H):s.TypeIs v T/\∀a,v= .ref a->∃ob,s.heap.get? a=some ob/\ob.dict=none:=by
 cases x with
  |str z=>obtain⟨t,rfl⟩:=r;cases(show T="str"from ty);exact⟨typeIs_str s z t,λ_ e=>nomatch e⟩
  |int i=>obtain⟨t,rfl⟩:=r;cases(show T="int"from ty);exact⟨typeIs_int s i t,λ_ e=>nomatch e⟩
  |ref p=>
   cases r;rcases ty with⟨rfl,xs,hq⟩|⟨rfl,o,d,hc,hd⟩|⟨rfl,d⟩|⟨rfl,S,n,d⟩;·obtain⟨h,_,g,_⟩:=I.list hq;refine⟨g.isList.typeIs,λa e=>?_⟩;cases e;obtain⟨o,n,e,c,hd,_⟩:=g;exact⟨o,e,hd⟩
   ·refine⟨⟨o,I.jo p o d,hc⟩,λa e=>?_⟩;cases e;exact⟨o,I.jo _ o d,hd⟩
   ·have z:∃o,s.heap.get? p=some o/\o.ExactDict:=by
     rcases d with⟨aW,d⟩|⟨aW,d⟩;·obtain⟨_,_,_,_,o,_,_,e,ex,_⟩:=I.bc p _ d;exact⟨o,e,ex⟩
     ·obtain⟨_,_,_,_,o,_,_,e,ex,_⟩:=I.bc p _ d;exact⟨o,e,ex⟩
    obtain⟨o,e,ex⟩:=z;refine⟨⟨o,e,ex.1⟩,λa f=>?_⟩;cases f;exact⟨o,e,ex.2.1⟩
   ·obtain⟨o,_,_,_,e,ex,_⟩:=I.bc p _ d;refine⟨⟨o,e,ex.1⟩,λa f=>?_⟩;cases f;exact⟨o,e,ex.2.1⟩
  |_=>exact False.elim ty
noncomputable def V6(K:PySem.W.Frag)(T:String)(r:V->List V->Hp->VK->Prop)(to:TE)(t:TA):TE:=λσ H Q=>to σ H λx c=>RC K T x c/\t σ c λxs d=>r x xs d Q
variable{o e:Expr}{es:List Expr}{to:TE}{t:TA}{name:Str}{apos dj:Pos}{T id:String}{r:V->List V->Hp->VK->Prop}
theorem A5(q:PlainAttrs T)(slot:Slot T name id)(p:typeOf (.builtin id)=pure (.type "method_descriptor"))(hm:Ug X id r)(ho:PE X o to)(ha:PA X (e::es) t)(j:attributeBase o name X.env (eval o X.env)=eval o X.env:=by rfl)(k:((backTo dj (starEach (e::es) X.env)).all (λx=>!x.1)&&(backToKw dj (keywordEach [] X.env)).all (λx=>x.1.isSome)&&decide ((e::es).length+([]:List Keyword).length+(if([]:List Keyword).isEmpty then 0 else 1)<30))=true:=by rfl)(l:(apos.endLine==dj.line)=true:=by rfl)(n:starEach (e::es) X.env=(false,eval e X.env)::starEach es X.env:=by rfl)(m:(backTo dj (starEach es X.env)).any (·.1)=false:=by rfl):PE X (.Call (.Attribute o name apos) (e::es) [] dj) (V6 X.K T r to t):=by intro pins s σ H Q I h;refine wpAny_Call_method_late j k l rfl (bw (ho pins s σ H _ I h) λv s1 u=>?_);obtain⟨x,f,c,r1,ty,q1⟩:=u;obtain⟨h1,h2⟩:=JG c r1 ty;refine⟨T,id,q,slot,p,h1,h2,?_⟩;have d:=ha dj pins s1 σ f _ c q1;rw[n]at d⊢;refine Calls.callWith_builtin (by show(false||(backTo dj (starEach es X.env)).any (·.1))=false;rw[m]<;>rfl) (Calls.evalArgs_plain ?_);exact bw d λus s2⟨vs,g,i,r2,q2⟩=>hm pins s2 σ g x vs v us Q i r1 r2 q2
end
noncomputable def Sr(X:Cx)(id:String)(r:V->List V->Hp->VK->Prop):Prop:=∀(pins:List (Addr×Obj))(s:Shared)(σ:St)(H:Hp)(x:V)(xs:List V)(v:Value)(us:List Value)(Q:VK),Inv X pins σ H s->RelV x v->Vals xs us->r x xs H Q->wpAny (model X.prog X.w) X.A (call (.builtin id) (v::us)) (EP X pins σ Q) X.xe s
theorem Vals.one{x:V}{us:List Value}(h:Vals [x] us):∃u,us=[u]/\RelV x u:=by cases h with|cons r e=>cases e;exact⟨_,rfl,r⟩
theorem Vals.two{x y:V}{us:List Value}(h:Vals [x,y] us):∃u v,us=[u,v]/\RelV x u/\RelV y v:=by cases h with|cons r t=>cases t with|cons q e=>cases e;exact⟨_,_,rfl,r,q⟩
section
variable{X:Cx}{pins:List (Addr×Obj)}{σ:St}{H:Hp}{s:Shared}{l b:Addr}{xs ys zs:List V}
theorem Inv.KA{a its':List Value}{n:Nat}{f:Array Value->Array Value}{t':Nat}(I:Inv X pins σ H s)(hH:H l=some (.lst xs))(e:s.heap.get? l=some {cls:= .type "list",data:= .seq a.toArray n})(c:f a.toArray=its'.toArray)(hv:Vals ys its')(g:ys.length<=sizeLine):Inv X pins σ (upd H l (.lst ys)) {s with heap:=s.heap.update l (Obj.mapSeq f),toks:=t'}:=by have q:=PySem.IsL.update e f;rw[c]at q;refine I.write (x:=l) (e:=l) (by rw[hH];exact trivial) (.inl rfl) (λb' u hb d=>(fH s.heap (Obj.mapSeq f) (Ne.symm hb)).trans d) ⟨_,q⟩ ?_;exact⟨g,its',_,hv,q⟩
theorem Inv.IA{a:List Value}{t':Nat}(I:Inv X pins σ H s)(hv:Vals ys a)(c:ys.length<=sizeLine):Inv X pins σ (upd H s.heap.objs.size (.lst ys)) {s with heap:=s.heap.push {cls:= .type "list",data:= .seq a.toArray},toks:=t'}:=I.laid (λ_ _ q=>zQ01 _ q) (zQ04 _) ⟨c,a,0,hv,zQ06 _ rfl⟩
theorem Inv.fresh(I:Inv X pins σ H s):H s.heap.objs.size=none:=I.bc.fresh (zQ04 _)
theorem Inv.Av(I:Inv X pins σ H s)(hH:H l=some (.lst xs)):xs.length<=sizeLine/\∃(a:List Value)(n:Nat),Vals xs a/\xs.length=a.length/\s.heap.get? l=some {cls:= .type "list",data:= .seq a.toArray n}:=by obtain⟨z,a,n,r,e⟩:=I.bc l _ hH;exact⟨z,a,n,r,r.length,e⟩
theorem Bc{n:Nat}(h:n<=sizeLine):Builtin.List.listTooLong n=false:=by unfold Builtin.List.listTooLong;exact decide_eq_false (by lia)
end
section
variable{X:Cx}
noncomputable def Dh:V->List V->Hp->VK->Prop:=λx vs H Q=>∃l xs y,x= .ref l/\vs=[y]/\H l=some (.lst xs)/\xs.length<sizeLine/\Q .a_ (upd H l (.lst (xs++[y])))
theorem jq:Sr X "list.append" Dh:=by intro pins s σ H x vs v us Q I d c h;obtain⟨l,xs,y,rfl,rfl,hH,f,q⟩:=h;cases d;obtain⟨u,rfl,b⟩:=c.one;obtain⟨z,a,n,r,hl,e⟩:=I.Av hH;refine call_meets F.slot_list_append ⟨_,e,rfl⟩ F.entry_list_append (F.args_list_append_2 _ _) (PySem.list_append l a.toArray n u (by rw[cG];lia)) ⟨e,?_⟩;refine⟨.a_,_,I.KA (its':=a++[u]) hH e (by simp) (r.append (.cons b .nil)) ?_,rfl,q⟩;rw[fK,List.length_singleton];lia
noncomputable def Ey:V->List V->Hp->VK->Prop:=λx vs H Q=>∃l b xs a,x= .ref l/\vs=[.ref b]/\H l=some (.lst xs)/\H b=some (.lst a)/\xs.length+a.length<=sizeLine/\Q .a_ (upd H l (.lst (xs++a)))
theorem nQ:Sr X "list.extend" Ey:=by
 intro pins s σ H x vs v us Q I o m h;obtain⟨l,b,xs,y,rfl,rfl,hH,f,t,q⟩:=h;cases o;obtain⟨u,rfl,k⟩:=m.one;cases k;obtain⟨z,a,n,r,hl,e⟩:=I.Av hH;obtain⟨w,c,j,r2,p,d⟩:=I.Av f;have i:a.toArray.size+c.toArray.size<=sizeLine:=by rw[cG,cG];lia
 have g:¬(!a.toArray.isEmpty&&Builtin.List.listTooLong (a.toArray.size+c.toArray.size))=true:=by rw[Bc i,Bool.and_false];exact dR
 refine call_meets F.slot_list_extend ⟨_,e,rfl⟩ F.entry_list_extend (F.args_list_extend_2 _ _) (AutoSeq1.list_extend_list_list_0 l a.toArray n b c.toArray j g (by rw[cG];lia) (by lia)) ⟨e,d,?_⟩;refine⟨.a_,_,I.KA (its':=a++c) hH e (by simp) (r.append r2) ?_,rfl,q⟩;rw[fK];lia
noncomputable def Qx:R2:=λx y H Q=>∃l b xs a,x= .ref l/\y= .ref b/\H l=some (.lst xs)/\H b=some (.lst a)/\xs.length+a.length<=sizeLine/\∀p,H p=none->Q (.ref p) (upd H p (.lst (xs++a)))
theorem GU:lj X (binaryOp .Add) Qx:=by
 intro pins s σ H x y v u Q I i j h;obtain⟨l,b,xs,t,rfl,rfl,hH,g,m,q⟩:=h;cases i;cases j;obtain⟨z,a,n,r,hl,e⟩:=I.Av hH;obtain⟨p,c,o,r2,k,d⟩:=I.Av g;refine PySem.P.add_list e d ?_ (by rw[cG,cG];lia);have f:a.toArray++c.toArray=(a++c).toArray:=by simp
 rw[f];exact⟨.ref _,_,I.IA (t':=s.toks) (r.append r2) (by rw[fK];lia),rfl,q _ I.fresh⟩
end
section
variable{prog:Program}{w:World}{A:Around}{E:Value->Shared->Prop}{s:Shared}
end
section
variable{X:Cx}
end
section
variable{κ:Type}[DecidableEq κ]
noncomputable def eR(aW:List (κ×V))(k:κ):Option V:=(aW.find? λkv=>decide (kv.1=k)).map (·.2)
noncomputable def putK(aW:List (κ×V))(k:κ)(v:V):List (κ×V):=if(aW.any λkv=>decide (kv.1=k))=true then aW.map (λkv=>if kv.1=k then(kv.1,v)else kv)else aW++[(k,v)]
theorem mB{p:κ×V}{r:List (κ×V)}{k:κ}(e:p.1=k):eR (p::r) k=some p.2:=by simp[eR,List.find?_cons,e]
theorem lH{p:κ×V}{r:List (κ×V)}{k:κ}(e:¬p.1=k):eR (p::r) k=eR r k:=by simp[eR,List.find?_cons,e]
theorem uB(k:κ):∀aW:List (κ×V),(aW.any λkv=>decide (kv.1=k))=(eR aW k).isSome
 |[]=>rfl
 |p::r=>by
  rw[List.any_cons];by_cases e:p.1=k;·simp only[mB e,decide_eq_true e,Bool.true_or,Option.isSome_some]
  ·rw[lH e,decide_eq_false e,Bool.false_or];exact uB k r
theorem tJ(aW:List (κ×V))(k:κ)(v:V):(putK aW k v).length<=aW.length+1:=by
 unfold putK;split;·rw[cT];lia
 ·rw[fK,gH,List.length_nil];lia
theorem jQ.nR{o:Option V}{u:Option Value}(r:jQ o u):o.isSome=u.isSome:=by
 cases o with
  |none=>cases u with|none=>rfl|some _=>exact(show False from r).elim
  |some _=>cases u with|none=>exact(show False from r).elim|some _=>rfl
theorem jQ.getD{o:Option V}{u:Option Value}{d:V}{d':Value}(r:jQ o u)(a:RelV d d'):RelV (o.getD d) (u.getD d'):=by
 cases o with
  |none=>cases u with|none=>exact a|some _=>exact(show False from r).elim
  |some _=>cases u with|none=>exact(show False from r).elim|some _=>exact r
theorem KV.val{aW:List (κ×V)}{vs:List (κ×Value)}(r:KV aW vs)(k:κ):jQ (eR aW k) (valueAt vs k):=by
 unfold KV at r;induction r with
  |nil=>exact True.intro
  |@cons p q ps c h t d=>
   obtain⟨h1,h2⟩:=h;by_cases e:p.1=k
   ·have a:q.1=k:=h1.symm.trans e;have b:valueAt (q::c) k=some q.2:=by simp[valueAt,List.find?_cons,a]
    rw[mB e,b];exact h2
   ·have a:¬q.1=k:=λz=>e (h1.trans z);have b:valueAt (q::c) k=valueAt c k:=by simp[valueAt,List.find?_cons,a]
    rw[lH e,b];exact d
theorem KV.any{aW:List (κ×V)}{vs:List (κ×Value)}(r:KV aW vs)(k:κ):(aW.any λkv=>decide (kv.1=k))=vs.any λkv=>decide (kv.1=k):=by unfold KV at r;induction r with|nil=>rfl|cons h t a=>rw[List.any_cons,List.any_cons,a,h.1]
theorem KV.QO{aW:List (κ×V)}{vs:List (κ×Value)}(r:KV aW vs)(k:κ){y:V}{u:Value}(b:RelV y u):KV (aW.map λkv=>if kv.1=k then(kv.1,y)else kv) (vs.map λkv=>if kv.1=k then(kv.1,u)else kv):=by
 unfold KV at r⊢;induction r with
  |nil=>exact .nil
  |@cons p q ps c h t a=>
   rw[eO,eO];refine .cons ?_ a;obtain⟨h1,h2⟩:=h;by_cases e:p.1=k;·rw[if_pos e,if_pos (h1.symm.trans e)];exact⟨h1,b⟩
   ·rw[if_neg e,if_neg (λz=>e (h1.trans z))];exact⟨h1,h2⟩
theorem KV.put{aW:List (κ×V)}{vs:List (κ×Value)}(r:KV aW vs)(k:κ){y:V}{u:Value}(a:RelV y u):KV (putK aW k y) (stored vs k u):=by
 unfold putK stored;rw[r.any k];by_cases e:(vs.any λkv=>decide (kv.1=k))=true;·rw[if_pos e,if_pos e];exact r.QO k a
 ·rw[if_neg e,if_neg e];exact Paired.snoc r ⟨rfl,a⟩
end
theorem tG{P:Program}{w:World}{k:Key}{u:Value}(r:RelV (kV k) u):(bP P w).is k u=true:=by cases k with|inl i=>obtain⟨t,e⟩:=(show∃t,u=Value.int i t from r);subst e;exact tP P w i t|inr x=>obtain⟨t,e⟩:=(show∃t,u=Value.str x t from r);subst e;exact um P w x t
theorem nP{P:Program}{w:World}:∀{ks:List Key}{us:List Value},Vals (ks.map kV) us->ItemsAre (bP P w) ks us|[],_,r=>by rw[List.map_nil]at r;cases r;exact .nil|k::ks,_,r=>by rw[eO]at r;cases r with|cons h t=>exact .cons (tG h) (nP t)
noncomputable abbrev KT(H:Hp):List (List Key×V)->List (List Key×Addr×Value)->Prop:=Paired λp q=>p.1=q.1/\H q.2.1=some (.tup (p.1.map kV))/\RelV p.2 q.2.2
theorem KT.val{H:Hp}{aW:List (List Key×V)}{xs:List (List Key×Addr×Value)}(r:KT H aW xs)(k:List Key):jQ (eR aW k) ((atKey xs k).map (·.2)):=by
 induction r with
  |nil=>exact True.intro
  |@cons p q ps c h t d=>
   obtain⟨h1,_,h2⟩:=h;by_cases e:p.1=k
   ·have a:q.1=k:=h1.symm.trans e;have b:atKey (q::c) k=some q.2:=by simp[atKey,List.find?_cons,a]
    rw[mB e,b];exact h2
   ·have a:¬q.1=k:=λz=>e (h1.trans z);have b:atKey (q::c) k=atKey c k:=by simp[atKey,List.find?_cons,a]
    rw[lH e,b];exact d
section
variable{P:Program}{w:World}{H:Hp}{h:Heap}{a:Addr}
theorem Fm{u:HO}(ok:fL P w H h)(e:Rd H a u):bC P w H h a u:=e.ok ok
theorem oI{aW:List (Key×V)}(ok:fL P w H h)(e:Rd H a (.dK aW)):aW.length<=sizeLine/\(a==sysModules)=false/\∃vs,KV aW vs/\h.DictOf (bP P w) a vs:=show bC P w H h a (.dK aW)from Fm ok e
theorem MD{aW:List (Key×V)}(ok:fL P w H h)(e:H a=some (.dK aW)):aW.length<=sizeLine/\(a==sysModules)=false/\∃vs,KV aW vs/\h.DictOf (bP P w) a vs:=oI ok (.inl e)
theorem qV{ks:List Key}(ok:fL P w H h)(e:H a=some (.tup (ks.map kV))):(tupleKind (bP P w)).is h ks a:=by obtain⟨_,b,r,o,h1,h2,n,h3⟩:=(show bC P w H h a (.tup (ks.map kV))from ok a _ e);exact⟨o,b.toArray,n,h1,h2,h3,by simpa using nP r⟩
theorem sr{aW:List (List Key×V)}(ok:fL P w H h)(e:Rd H a (.dT aW)):aW.length<=sizeLine/\(a==sysModules)=false/\∃xs,KT H aW xs/\h.DictOfH (tupleKind (bP P w)) a xs:=by
 obtain⟨z,y,xs,r,o,es,ep,h1,h2,h3,h4,h5⟩:=(show bC P w H h a (.dT aW)from Fm ok e);refine⟨z,y,xs,r,o,es,ep,h1,h2,h3,h4,λx b=>?_,h5⟩;have all:∀{l:List (List Key×V)}{m:List (List Key×Addr×Value)},KT H l m->∀x∈m,(tupleKind (bP P w)).is h x.1 x.2.1:=by
  intro l m q;induction q with
   |nil=>intro x b;exact nomatch b
   |@cons p q ps d hq t c=>
    intro x b;rcases List.mem_cons.mp b with e|b;·subst e;exact qV ok (by rw[<-hq.1];exact hq.2.1)
    ·exact c x b
 exact all r x b
end
noncomputable def iV(H:Hp)(a:Addr)(y:V)(r:Option V):Prop:=(∃aW k,Rd H a (.dK aW)/\y=kV k/\r=eR aW k)\/∃aW k b,Rd H a (.dT aW)/\y= .ref b/\H b=some (.tup (k.map kV))/\r=eR aW k
theorem iV.k{H:Hp}{a:Addr}{aW:List (Key×V)}{k:Key}(e:H a=some (.dK aW)):iV H a (kV k) (eR aW k):= .inl ⟨aW,k, .inl e,rfl,rfl⟩
section
variable{X:Cx}{pins:List (Addr×Obj)}{σ:St}{H:Hp}{s:Shared}{a:Addr}{y v:V}{u r:Value}{o:Option V}{A:Around}{E:Value->Shared->Prop}
theorem Inv.big(I:Inv X pins σ H s):sysModules<s.heap.objs.size:=by have h:mainGlobals<s.heap.objs.size:=(I.mod.glob.keeps I.bk).lt;exact Nat.lt_trans (by decide) h
theorem zf{Q:Value->Shared->Prop}(t:A.units+1<cLine)(I:Inv X pins σ H s)(g:iV H a y (some v))(j:RelV y u)(h:∀c s',Inv X pins σ H s'->RelV v c->Q c s'):wpAny (model X.prog X.w) A (getItem (.ref a) u) Q E s:=by
 rcases g with⟨aW,k,e,f,l⟩|⟨aW,k,b,e,f,m,l⟩;·subst f;obtain⟨z,hd,vs,rel,d⟩:=oI I.bc e;obtain⟨c,hw,i⟩:=jQ.some_of (v:=v) (o:=valueAt vs k) (by rw[l];exact rel.val k);exact wpAny_getItem_of (tG j) d.mapOf hw (h c _ (I.tok _) i)
 ·subst f;cases(show u=Value.ref b from j);obtain⟨z,hd,xs,rel,d⟩:=sr I.bc e;obtain⟨c,hw,i⟩:=jQ.some_of (v:=v) (o:=(atKey xs k).map (·.2)) (by rw[l];exact rel.val k);obtain⟨p,n,q⟩:=Option.map_eq_some_iff.mp hw;refine wpAny_getItem_heap (tupleKind_room_in1 t) (qV I.bc m) d n ?_;rw[q];exact h c _ (I.tok _) i
theorem Qe{Q:Value->Shared->Prop}(j:A.units+1<cLine)(I:Inv X pins σ H s)(g:iV H a y o)(f:RelV y u)(h:∀s',Inv X pins σ H s'->Q (.bool o.isSome) s'):wpAny (model X.prog X.w) A (compareOp .In u (.ref a)) Q E s:=by
 rcases g with⟨aW,k,e,d,l⟩|⟨aW,k,b,e,d,i,l⟩;·subst d;obtain⟨z,hd,vs,rel,c⟩:=oI I.bc e;refine wpAny_in_of (tG f) hd c.mapOf ?_;rw[<-(rel.val k).nR,<-l];exact h _ (I.tok _)
 ·subst d;cases(show u=Value.ref b from f);obtain⟨z,hd,xs,rel,c⟩:=sr I.bc e;refine wpAny_in_heap (tupleKind_room_in1 j) (qV I.bc i) hd c ?_;have q:=(rel.val k).nR;rw[Option.isSome_map]at q;rw[<-q,<-l];exact h _ (I.tok _)
theorem EI{h':Heap}{t':Nat}{ob:HO}(I:Inv X pins σ H s)(d:MY (H a))(c:Heap.SameBut a s.heap h')(he:∃q,h'.get? a=some q)(new:bC X.prog X.w (upd H a ob) h' a ob):Inv X pins σ (upd H a ob) {s with heap:=h',toks:=t'}:=I.write (x:=a) (e:=a) d (.inl rfl) (λb q hb z=>(c.2 b hb).trans z) he new
theorem JH{P:Program}{w:World}{H':Hp}{h':Heap}{aW:List (Key×V)}{vs:List (Key×Value)}(z:aW.length<=sizeLine)(hd:(a==sysModules)=false)(rel:KV aW vs)(b:h'.DictOf (bP P w) a vs):bC P w H' h' a (.dK aW):=⟨z,hd,vs,rel,b⟩
end
section
variable{X:Cx}{pins:List (Addr×Obj)}{σ:St}{H:Hp}{s:Shared}{a:Addr}{aW:List (Key×V)}{k:Key}{u:Value}{A:Around}{E:Value->Shared->Prop}
end
def HZ(i:Expr):Prop:=∀b a,subscripted i false b a=operate [b,a] (getItem b a)
theorem xN{prog:Program}{w:World}{A:Around}{E:Value->Shared->Prop}{s:Shared}{env:Env}{value slice:Expr}{e:Pos}{T id:String}{Q:Value->Shared->Prop}(hl:typeLookup (.type T) "__getitem__"=pure (some (.builtin id)))(c:HZ slice)(h:wpAny (model prog w) A (eval value env) (λo s₁=>wpAny (model prog w) A (eval slice env) (λi s₂=>s₂.TypeIs o T/\wpAny (model prog w) A (getItem o i) Q E s₂) E s₁) E s):wpAny (model prog w) A (eval (.Subscript value slice e) env) Q E s:=by
 refine Subscript_ (d9 h (λo s₁ h₁=>d9 h₁ (λi s₂ a=>?_) λ_ _ x=>x) λ_ _ x=>x);obtain⟨hT,a⟩:=a;unfold subscriptTail;refine zQ00 ?_;rw[getitemInPython_of_ne hT.not_modules];refine zQ00 (wpAny_specialOf hT hl ?_);have fin:wpAny (model prog w) A (subscripted slice false o i) (λr b=>wpAny (model prog w) A (letTemporaryGo value o r>>=λ_=>pure r) Q E b) E s₂:=by rw[c o i];exact wpAny_operating (d9 a (λr b d=>zQ00 (wpAny_letTemporaryGo (zQ02 d))) λ_ _ x=>x)
 first|exact zQ02 (zQ00 fin)|exact zQ00 (zQ02 (zQ00 fin))|exact zQ00 fin
theorem tY{X:Cx}{pins:List (Addr×Obj)}{σ:St}{H:Hp}{s:Shared}{a:Addr}{y:V}{o:Option V}(I:Inv X pins σ H s)(g:iV H a y o):s.TypeIs (.ref a) "dict":=by
 rcases g with⟨aW,k,e,_,_⟩|⟨aW,k,b,e,_,_,_⟩;·obtain⟨_,_,vs,_,c⟩:=oI I.bc e;exact c.typeIs
 ·obtain⟨_,_,xs,_,c⟩:=sr I.bc e;exact c.typeIs
noncomputable def KC(d ty:TE):TE:=λσ H Q=>d σ H λx c=>ty σ c λy b=>∃a v,x= .ref a/\iV b a y (some v)/\Q v b
noncomputable def Qh(ty d:TE):TE:=λσ H Q=>ty σ H λy c=>d σ c λx b=>∃a o,x= .ref a/\iV b a y o/\Q (.bl o.isSome) b
section
variable{X:Cx}{o i e value:Expr}{pos pos' IH:Pos}{td ty tv:TE}
theorem xV(l:X.A.units+1<cLine)(ho:PE X o td)(hi:PE X i ty)(k:HZ i):PE X (.Subscript o i pos) (KC td ty):=by intro pins s σ H Q I h;refine xN PySem.F.slot_dict_getitem.lookup k (bw (ho pins s σ H _ I h) λu s1⟨x,c,f,n,q1⟩=>bw (hi pins s1 σ c _ f q1) λr s2 q=>?_);obtain⟨y,d,b,p,a,v,ex,g,q2⟩:=q;subst ex;obtain rfl:u=Value.ref a:=n;exact⟨tY b g,zf l b g p λw t j m=>⟨v,d,j,m,q2⟩⟩
theorem B2(k:X.A.units+1<cLine)(hi:PE X i ty)(ho:PE X o td):PC X .In i o (Qh ty td):=by intro pins s σ H Q I h;refine bw (hi pins s σ H _ I h) λq s1⟨y,b,d,n,q1⟩=>bw (ho pins s1 σ b _ d q1) λu s2 p=>?_;obtain⟨x,c,f,m,a,l,ex,g,q2⟩:=p;subst ex;obtain rfl:u=Value.ref a:=m;exact Qe k f g n λr j=>⟨.bl l.isSome,c,j,rfl,q2⟩
end
theorem A_{P:Program}{w:World}{H:Hp}(h:Heap)(hb:sysModules<h.objs.size):bC P w H (h.push {cls:= .type "dict",data:= .dict #[]}) h.objs.size (.dK []):=⟨zQ11 _,beq_eq_false_iff_ne.mpr (Ne.symm (zQ18 hb)),[], .nil,Heap.DictOf.new h⟩
section
variable{X:Cx}{pos:Pos}
end
noncomputable def vI:List (TE×TE)->St->Hp->(List (V×V)->Hp->Prop)->Prop|[],_,H,Q=>Q [] H|(tk,d)::r,σ,H,Q=>tk σ H λx a=>d σ a λy b=>vI r σ b λps c=>Q ((x,y)::ps) c
noncomputable abbrev VV:List (V×V)->List (Value×Value)->Prop:=Paired λp q=>RelV p.1 q.1/\RelV p.2 q.2
noncomputable def vT(X:Cx)(a:Pos)(keys:List (Option Expr))(values:List Expr)(b:List (TE×TE)):Prop:=∀(pins:List (Addr×Obj))(s:Shared)(σ:St)(H:Hp)(Q:List (V×V)->Hp->Prop),Inv X pins σ H s->vI b σ H Q->wpAny (model X.prog X.w) X.A (evalPairs (pairTrees keys values X.env a)) (λvs s'=>∃ps H',Inv X pins σ H' s'/\VV ps vs/\Q ps H') X.xe s
theorem oR{X:Cx}{a:Pos}:vT X a [] [] []:=λpins s σ H Q I h=>pairTrees_nil_walk ⟨[],H,I, .nil,h⟩
theorem ba{X:Cx}{a:Pos}{k v:Expr}{ks:List (Option Expr)}{vs:List Expr}{tk c:TE}{b:List (TE×TE)}(l:PE X k tk)(hv:PE X v c)(hr:vT X a ks vs b):vT X a (some k::ks) (v::vs) ((tk,c)::b):=λpins s σ H Q I h=>pairTrees_cons_walk (bw (l pins s σ H _ I h) λu s1⟨x,d,g,m,q1⟩=>bw (hv pins s1 σ d _ g q1) λw2 s2⟨y,e,i,n,q2⟩=>bw (hr pins s2 σ e _ i q2) λws o⟨ps,f,j,rel,q3⟩=>⟨(x,y)::ps,f,j, .cons ⟨m,n⟩ rel,q3⟩)
noncomputable def fQ(aW more:List (Key×V)):List (Key×V):=more.foldl (λa kv=>putK a kv.1 kv.2) aW
theorem KV.merge:∀{more:List (Key×V)}{rs:List (Key×Value)}{aW:List (Key×V)}{vs:List (Key×Value)},KV more rs->KV aW vs->KV (fQ aW more) (merged vs rs):=by
 intro more rs aW vs r;unfold KV at r;induction r generalizing aW vs with
  |nil=>intro q;exact q
  |@cons p q ps b h t a=>
   intro r0;have e:KV (putK aW p.1 p.2) (stored vs q.1 q.2):=by have :=r0.put p.1 h.2;rw[<-h.1];exact this
   exact a e
theorem gN:∀(more aW:List (Key×V)),(fQ aW more).length<=aW.length+more.length|[],aW=>by show aW.length<=aW.length+0;lia|p::r,aW=>by have h1:=gN r (putK aW p.1 p.2);have h2:=tJ aW p.1 p.2;show(fQ (putK aW p.1 p.2) r).length<=_;rw[gH];lia
theorem lI{P:Program}{w:World}:∀{aW:List (Key×V)}{ws:List (Value×Value)},VV (aW.map λkv=>(kV kv.1,kv.2)) ws->∃rs,Carries (bP P w) ws rs/\KV aW rs|[],_,r=>by rw[List.map_nil]at r;cases r;exact⟨[],True.intro, .nil⟩|p::aW,_,r=>by rw[eO]at r;cases r with|@cons a b as bs h t=>obtain⟨rs,c,q⟩:=lI (P:=P) (w:=w) t;obtain⟨e,d⟩:=b;exact⟨(p.1,d)::rs,⟨tG h.1,rfl,c⟩, .cons ⟨rfl,h.2⟩ q⟩
noncomputable def KP(b:List (TE×TE)):TE:=λσ H Q=>∀p,H p=none->vI b σ (upd H p (.dK [])) λps a=>a p=some (.dK [])/\∃aW:List (Key×V),ps=aW.map (λkv=>(kV kv.1,kv.2))/\aW.length<=15/\Q (.ref p) (upd a p (.dK (fQ [] aW)))
theorem oQ{X:Cx}{f:Pos}{keys:List (Option Expr)}{values:List Expr}{g:List (TE×TE)}(h:vT X f keys values g)(m:keys.all (·.isSome)=true)(hl:keys.length=values.length)(k:keys≠[])(l:keys.length<=15):PE X (.Dict keys values f) (KP g):=by
 intro pins s σ H Q I q;have hn:=I.bc.fresh (zQ04 s.heap.objs.size);have i:=I.laid (a:=s.heap.objs.size) (o:= .dK []) (h':=s.heap.push {cls:= .type "dict",data:= .dict #[]}) (t':=s.toks) (λ_ _ q=>zQ01 _ q) (zQ04 _) (A_ s.heap I.big);refine wpAny_Dict_walk (knd:=bP X.prog X.w) m hl k l (bw (h pins _ σ _ _ i (q _ hn)) λws s2 t=>?_);obtain⟨ps,u,b,rel,e,aW,ep,v,q2⟩:=t;subst ep;obtain⟨rs,c,r⟩:=lI (P:=X.prog) (w:=X.w) rel;obtain⟨z,hd,x,r0,j⟩:=MD b.bc e;cases r0;refine⟨rs,c,j,λh' d n=>⟨.ref s.heap.objs.size,_,?_,rfl,q2⟩⟩;have p:(fQ [] aW).length<=sizeLine:=by have h1:=gN aW [];rw[List.length_nil]at h1;rw[sizeLine_eq];lia
 have he:∃q,h'.get? s.heap.objs.size=some q:=let⟨q,_,_,hq,_⟩:=d;⟨q,hq⟩;exact EI b (by rw[e];exact True.intro) n he (JH p hd (r.merge .nil) d)
structure M1(X:Cx)(o:Expr)(m:Str)(apos:Pos)(e:Expr)(dj:Pos):Prop where
 base:attributeBase o m X.env (eval o X.env)=eval o X.env
 PF:((backTo dj (starEach [e] X.env)).all (λx=>!x.1)&&(backToKw dj (keywordEach [] X.env)).all (λx=>x.1.isSome)&&decide (([e]:List Expr).length+([]:List Keyword).length+(if([]:List Keyword).isEmpty then 0 else 1)<30))=true
 line:(apos.endLine==dj.line)=true
 trees:backTo dj (starEach [e] X.env)=[(false,eval e X.env)]
structure M2(X:Cx)(o:Expr)(m:Str)(apos:Pos)(e f:Expr)(dj:Pos):Prop where
 base:attributeBase o m X.env (eval o X.env)=eval o X.env
 PF:((backTo dj (starEach [e,f] X.env)).all (λx=>!x.1)&&(backToKw dj (keywordEach [] X.env)).all (λx=>x.1.isSome)&&decide (([e,f]:List Expr).length+([]:List Keyword).length+(if([]:List Keyword).isEmpty then 0 else 1)<30))=true
 line:(apos.endLine==dj.line)=true
 trees:backTo dj (starEach [e,f] X.env)=[(false,eval e X.env),(false,eval f X.env)]
def R3(H:Hp)(a:Addr):Prop:=(∃aW,Rd H a (.dK aW))\/∃aW,Rd H a (.dT aW)
theorem HM{X:Cx}{pins:List (Addr×Obj)}{σ:St}{H:Hp}{s:Shared}{a:Addr}(I:Inv X pins σ H s)(d:R3 H a):s.TypeIs (.ref a) "dict"/\(∀b,Value.ref a= .ref b->∃ob,s.heap.get? b=some ob/\ob.dict=none)/\(a==sysModules)=false:=by
 rcases d with⟨aW,e⟩|⟨aW,e⟩;·obtain⟨_,hd,vs,_,c⟩:=oI I.bc e;refine⟨c.typeIs,λb q=>?_,hd⟩;cases q;obtain⟨ob,_,_,h1,h2,_⟩:=c;exact⟨ob,h1,h2.2.1⟩
 ·obtain⟨_,hd,xs,_,c⟩:=sr I.bc e;refine⟨c.typeIs,λb q=>?_,hd⟩;cases q;obtain⟨ob,_,_,h1,h2,_⟩:=c;exact⟨ob,h1,h2.2.1⟩
section
variable{X:Cx}{pins:List (Addr×Obj)}{σ:St}{H:Hp}{s:Shared}{a:Addr}{y d:V}{u r:Value}{o:Option V}{A:Around}{E:Value->Shared->Prop}
theorem Jh{Q:Value->Shared->Prop}(p:A.units+1<cLine)(I:Inv X pins σ H s)(g:iV H a y o)(j:RelV y u)(i:RelV d r)(h:∀m s',Inv X pins σ H s'->RelV (o.getD d) m->Q m s'):wpAny (model X.prog X.w) A (call (.builtin "dict.get") [.ref a,u,r]) Q E s:=by
 rcases g with⟨aW,k,e,f,l⟩|⟨aW,k,b,e,f,n,l⟩;·subst f;obtain⟨z,hd,vs,rel,c⟩:=oI I.bc e;refine call_meetsIn PySem.F.slot_dict_get c.typeIs PySem.F.entry_dict_get (PySem.F.args_dict_get_3 _ _ _) (meets_dict_get_default (bP X.prog X.w) a (tG j) hd r) ⟨_,c.mapOf,h _ _ (I.tok _) ?_⟩;rw[l];exact(rel.val k).getD i
 ·subst f;cases(show u=Value.ref b from j);obtain⟨z,hd,xs,rel,c⟩:=sr I.bc e;refine call_meetsIn PySem.F.slot_dict_get c.typeIs PySem.F.entry_dict_get (PySem.F.args_dict_get_3 _ _ _) (meetsH_dict_get_default (tupleKind (bP X.prog X.w)) a b hd r) ⟨tupleKind_room_in1 p,k,xs,qV I.bc n,c,h _ _ (I.tok _) ?_⟩;rw[l];exact(rel.val k).getD i
end
noncomputable def Jg(e ty f:TE):TE:=λσ H Q=>e σ H λx b=>∃a,x= .ref a/\R3 b a/\ty σ b λy d=>f σ d λz c=>∃o,iV c a y o/\Q (o.getD z) c
section
variable{X:Cx}{o e f:Expr}{apos dj:Pos}{td ty tx:TE}
theorem Cj(q:X.A.units+1<cLine)(ho:PE X o td)(he:PE X e ty)(p:PE X f tx)(m:M2 X o "get" apos e f dj):PE X (.Call (.Attribute o "get" apos) [e,f] [] dj) (Jg td ty tx):=by intro pins s σ H Q I h;refine wpAny_Call_method m.base m.PF m.line PySem.F.plainAttrs_dict PySem.F.slot_dict_get PySem.F.type_dict_get (bw (ho pins s σ H _ I h) λu s1 w=>?_);obtain⟨x,c,b,t,a,ex,d,q1⟩:=w;subst ex;obtain rfl:u=Value.ref a:=t;obtain⟨t1,t2,_⟩:=HM b d;refine⟨t1,t2,?_⟩;rw[m.trees];refine Calls.callWith_builtin rfl (Calls.evalArgs_plain (Calls.spliced_cons (bw (he pins s1 σ c _ b q1) λB s2⟨y,i,k,v,q2⟩=>Calls.spliced_cons (bw (p pins s2 σ i _ k q2) λA D⟨z,j,l,rz,C,g,q3⟩=>Calls.spliced_nil ?_))));exact Jh q l g v rz λF E n r=>⟨_,j,n,r,q3⟩
end
section
variable{X:Cx}{pins:List (Addr×Obj)}{σ:St}{H:Hp}{s:Shared}{a:Addr}{aW:List (Key×V)}{A:Around}{E:Value->Shared->Prop}
end
section
variable{X:Cx}{pins:List (Addr×Obj)}{σ:St}{H:Hp}{s:Shared}{a:Addr}{y:V}{u:Value}{A:Around}{E:Value->Shared->Prop}
end
end L2
end
section
namespace SK
open PySem PySem.W PySem.Calls PyProof.Rows
theorem kS{P:Params}{h:Heap}:∀(ns:List Int)(vs:List Value),WellAll P h vs (ns.map WData.int)->IntsAre vs ns:=by intro ns;induction ns with|nil=>intro vs w;rw[List.map_nil]at w;cases w;exact .nil|cons n ns c=>intro vs w;rw[eO]at w;cases w with|cons a b=>cases a;exact .cons _ _ (c _ b)
theorem yB{l:OpenLaw}{n:Nat}(hn:l.most=some n){P:Params}{h:Heap}{args:List WData}{vals:List Value}(b:l.row.toRowW.claim.pre args=true)(f:WellAll P h vals args):∃a vs ns,vals=[Value.ref a]/\args=[WData.list (ns.map WData.int)]/\h.get? a=some {cls:= .type "list",data:= .seq vs.toArray}/\IntsAre vs ns/\ns.length<=n:=by
 have e:WShape.hasAll [] args [.list .int]=true:=(pre_splitW b).1;have hc:l.pre.holds [] {args:=args}=true:=(pre_splitW b).2;obtain⟨d,r,rfl,h1,h2⟩:=hasAllW_cons e;obtain rfl:=hasAllW_nil h2;obtain⟨xs,rfl,h3⟩:=hasW_list h1;obtain⟨ns,rfl⟩:=items_int h3;have hlen:ns.length<=n:=by
  unfold OpenLaw.pre at hc;have h4:(WTm.not (.lt (.lit (.int (n:Int))) (.len (.arg 0)))).holds [] {args:=[.list (ns.map .int)]}=true:=by have h4:=(holds_andW hc).1;rw[hn]at h4;exact h4
  have h5:=condW_of h4 (w_not (w_lt w_lit (w_len_list (w_arg rfl))));rw[cT]at h5;refine Nat.le_of_not_lt λq=>?_;have g:(n:Int)<((ns.length:Nat):Int):=by lia
  first|(rw[decide_eq_true g]at h5;exact absurd h5 (by decide))|(simp at h5;lia)
 cases f with|cons w1 w2=>cases w2;cases w1 with|list ho c=>exact⟨_,_,ns,rfl,rfl,ho,kS ns _ c,hlen⟩
theorem yM(l:OpenLaw)(args:List WData):l.row.toRowW.claim.post args (.bool true) args=true:=postW_of (r:=l.row.toRowW) (X:=(true==true)) (show WShape.has [] (.bool true) .bool=true by first|rfl|decide|simp[WShape.has,WShape.arms,WShape.armsAll]) (show(WTm.eq .res (.lit (.bool true))).value [] {args:=args,res:=some (.bool true),after:=args}=some (.bool (true==true))from w_eq_bool (w_res rfl) w_lit) rfl
theorem uD{l:OpenLaw}{n:Nat}{q:Program}{loose:List Str}{XP:(Str->Option Value)->Heap->Prop}{YP:World->Heap->Prop}{d:DefRec}(hn:l.most=some n)(g:d.params.defaults=[])(call:∀(w:World)(bG s₁:Shared)(mg mb:Str->Option Value)(fa:Addr)(o:Obj)(pm cd doc:Value)(a:Addr)(vs:List Value)(ns:List Int),Ground q loose [] XP w bG mg mb s₁.heap->YP w s₁.heap->s₁.heap.get? fa=some o->o.data= .func (docDef d.name d.params d.body d.scope pm cd doc)->s₁.heap.CodeRec cd d.name->mg d.name=some (.ref fa)->s₁.heap.get? a=some {cls:= .type "list",data:= .seq vs.toArray}->IntsAre vs ns->ns.length<=n->s₁.gens=#[]->codeAny (model l.prog w) callerA (.call (.ref fa) ⟨[.ref a],[]⟩) (λr s'=>r= .ok (.ret (.bool true))/\OldK s₁.heap s'.heap/\s'.os=s₁.os/\AllBare s'.gens) s₁):WalkO q loose XP YP l.row.toRowW d [] (λf vs=>PySem.call f vs):=by intro w bG s₁ mg mb G Y fa o pm cd doc c kV ho hd e b hmg h args vals as j m s k p;obtain rfl:c= .none:=Dflts.none b g;obtain rfl:kV= .none:=Dflts.noKw b;obtain⟨a,vs,ns,rfl,rfl,i,hints,hlen⟩:=yB hn j k;refine enter_call (codeAny_mono (call w bG s₁ mg mb fa o pm cd doc a vs ns G Y ho (fd_plain hd) e hmg i hints hlen h) λr s' hq=>?_);obtain⟨rfl,h2,h3,h4⟩:=hq;exact⟨.inl ⟨.bool true, .bool true,[],rfl,λ_=>rfl, .bool true,yM l _,λ_=>⟨List.Pairwise.nil,λ_ hm=>(nomatch hm)⟩⟩,h2,h3,h4⟩
section
variable{prog:Program}{w:World}{A:Around}{E:Value->Shared->Prop}{s:Shared}{K:Frag}
end
end SK
end
section
namespace L2
open PySem PySem.Spec PyProof.Rows
theorem eU:∀{vs:List Value}{ns:List Int},IntsAre vs ns->Vals (ns.map V.int) vs|_,_, .nil=> .nil|_,_, .cons n t h=> .cons ⟨t,rfl⟩ (eU h)
noncomputable abbrev KOf{K:PySem.W.Frag}{h:Heap}(_:K.In h):PySem.W.Frag:=K
noncomputable def inClass(s:Stmt)(j:Nat):Stmt:=match s with| .ClassDef _ _ _ body _ _ _ _ _ _ _=>body.getD j (.Pass ⟨0,0,0,0⟩)|_=> .Pass ⟨0,0,0,0⟩
noncomputable def dX(s:Stmt):Arguments:=match s with| .FunctionDef _ a _ _ _ _ _ _ _ _=>a|_=>{posonlyargs:=[],args:=[],vararg:=none,kwonlyargs:=[],kw_defaults:=[],kwarg:=none,defaults:=[]}
noncomputable def bM(s:Stmt):List Stmt:=match s with| .FunctionDef _ _ b _ _ _ _ _ _ _=>b|_=>[]
noncomputable def ao(s:Stmt):Scope:=match s with| .FunctionDef _ _ _ _ _ _ sc _ _ _=>sc|_=>{kind:= .function,names:=[],isGenerator:=false,isCoroutine:=false}
noncomputable abbrev bW:lC:=λ_ _ _ _ _ _ _=>False
noncomputable abbrev E0:XK:=λ_ _ _=>False
theorem aX{X:Cx}:Passes bW X E0:=λ_ _ _ _ _ _ _ h=>h.elim
structure yO(K:PySem.W.Frag)(x qual:Str)(st:Stmt)(f:Addr)(fd:FuncData):Prop where
 ex:∃(oc:Value)(od:Option Addr)(kV doc pm:Value)(an:Option Addr)(cS ct:Value)(uJ:Array (Option Value)),fd=PySem.W.fnOf x qual (dX st) (bM st) (ao st) .none kV doc pm an cS ct/\K.lookup f=some ⟨oc,od, .func fd,uJ⟩/\PySem.W.codeIn K cS qual=true
 kp:PySem.W.keepIn K (.ref f)=true
section
variable{P:Program}{w:World}{K:PySem.W.Frag}{mg:Str->Option Value}{base:Heap}
theorem yO.ok{x qual:Str}{st:Stmt}{f:Addr}{fd:FuncData}{N ps:List Str}{k:Nat}{sp:Sp}(F:yO K x qual st f fd)(S:aP N ps (ao st))(len:∀vs H Q E,sp vs H Q E->vs.length=ps.length)(a:∀(cS:Value)(A:Around)(outer:List Env)(s:Shared)(H:Hp)(vs:List V)(Q:VK)(E:XK),cx k (A.deeper (envOfC qual (ao st) s.heap.objs.size f cS))->sp vs H Q E->∃t,fY (dW bW P w K mg base N qual (ao st) f cS A outer s H E).Ez (bM st) t/\t {nx:=λ_ H'=>Q .a_ H',rt:=Q} (start N vs) H):g8 P w K mg base bW (k+1) f fd ps sp:=by obtain⟨oc,od,kV,doc,pm,an,cS,ct,uJ,rfl,d,b⟩:=F.ex;refine wF d b S len λA outer s H vs Q E hr c=>?_;obtain⟨t,h,q⟩:=a cS A outer s H vs Q E hr c;exact⟨t,h.Ez,q⟩
theorem yO.binds{x qual:Str}{st:Stmt}{f:Addr}{fd:FuncData}{ps:List Str}(F:yO K x qual st f fd)(h:∀(kV doc pm:Value)(an:Option Addr)(cS ct:Value)(us:List Value),us.length=ps.length->bindArgs (PySem.W.fnOf x qual (dX st) (bM st) (ao st) .none kV doc pm an cS ct) ⟨us,[]⟩=pure (ps.zip us)):Binds K fd ps []:=by obtain⟨oc,od,kV,doc,pm,an,cS,ct,uJ,rfl,b,a⟩:=F.ex;exact .all (h kV doc pm an cS ct)
theorem CK{x qual:Str}{st:Stmt}{f:Addr}{oc:Value}{od an:Option Addr}{uJ:Array (Option Value)}{kV doc pm cS ct:Value}(l:K.lookup f=some ⟨oc,od, .func (PySem.W.fnOf x qual (dX st) (bM st) (ao st) .none kV doc pm an cS ct),uJ⟩)(c:PySem.W.codeIn K cS qual=true)(k:PySem.W.keepIn K (.ref f)=true):yO K x qual st f (PySem.W.fnOf x qual (dX st) (bM st) (ao st) .none kV doc pm an cS ct):=⟨⟨oc,od,kV,doc,pm,an,cS,ct,uJ,rfl,l,c⟩,k⟩
end
theorem Cb{A:Around}{k:Nat}(hr:cx k A):A.units+1<cLine:=Nat.lt_of_le_of_lt (Nat.add_le_add_left (by decide:1<=64) _) hr.units
section
variable{X:Cx}
theorem pv(i:Nat){x:Str}{c:Pos}(a:X.N[i]?=some x:=by rfl)(hv:Ml X.env.scope x:=by first|exact Or.inl rfl|exact Or.inr (Or.inl rfl)|exact Or.inr (Or.inr rfl))(hd:(x==("__debug__":Str))=false:=by decide)(b:(x==("__classdict__":Str))=false:=by decide):PE X (.Name x c) (Kw i):=B1 a hv hd b
end
theorem dZ{A B:Prop}(h:B):if false=true then A else B:=by rw[if_neg dR];exact h
theorem iI{A B:Prop}(h:A):if true=true then A else B:=by rw[if_pos rfl];exact h
theorem dg{c A B:Prop}[Decidable c](h1:c->A)(h2:¬c->B):if c then A else B:=by
 by_cases h:c;·rw[if_pos h];exact h1 h
 ·rw[if_neg h];exact h2 h
theorem Lj{c A B:Prop}[Decidable c](hc:c)(h:B):if(!decide c)=true then A else B:=by rw[decide_eq_true hc];exact dZ h
def aK(H H':Hp):Prop:=∀b o,H b=some o->H' b=some o
theorem aK.refl(H:Hp):aK H H:=λ_ _ h=>h
theorem aK.trans{H d e:Hp}(a:aK H d)(b:aK d e):aK H e:=λc o h=>b c o (a c o h)
theorem aK.free{H H':Hp}(e:aK H H'){l:Addr}(h:H' l=Option.none):H l=Option.none:=by cases q:H l with|none=>rfl|some o=>rw[e l o q]at h;cases h
theorem aK.seq{K:PySem.W.Frag}{H H':Hp}{a:Addr}{xs:List V}(e:aK H H')(h:bO K H a xs):bO K H' a xs:=by
 rcases h with(h|⟨o,h⟩)|h;·exact .inl (.inl (e _ _ h))
 ·exact .inl (.inr ⟨o,e _ _ h⟩)
 ·exact .inr h
section
variable{X:Cx}
end
section
variable{κ:Type}[DecidableEq κ]
theorem DM{aW:List (κ×V)}{k:κ}{v:V}(h:eR aW k=some v):k∈aW.map (·.1):=by
 have q:(aW.any λkv=>decide (kv.1=k))=true:=by rw[uB,h];all_goals rfl
 obtain⟨p,a,e⟩:=List.any_eq_true.mp q;exact List.mem_map.mpr ⟨p,a,of_decide_eq_true e⟩
end
end L2
end
section
namespace L3
open PySem PySem.Spec PyProof.Rows L2
noncomputable def cO(env:Env):List (Str×NameKind)->List (Str×Addr)->List (Str×Addr)|[],cs=>cs|(n,k)::r,cs=>cO env r (if(k== .free)=true then(n,(env.cells.lookup n).getD 0)::cs else cs)
theorem mK{env:Env}{scope:Scope}(h:∀x∈scope.names,x.2= .free->∃c,env.cells.lookup x.1=some c):closureFor scope env=pure (cO env scope.names []):=by
 unfold closureFor;have go:∀(l:List (Str×NameKind))(cs:List (Str×Addr)),(∀x∈l,x.2= .free->∃c,env.cells.lookup x.1=some c)->(forIn l cs λ(x:Str×NameKind)(r:List (Str×Addr))=>if(x.2== .free)=true then(do let a<-cellOf env x.1;pure (ForInStep.yield ((x.1,a)::r)))else pure (ForInStep.yield r):Sem (List (Str×Addr)))=pure (cO env l cs):=by
  intro l;induction l with
   |nil=>intro cs _;rfl
   |cons x l d=>
    intro cs hl;obtain⟨n,k⟩:=x;have hr:∀y∈l,y.2= .free->∃c,env.cells.lookup y.1=some c:=λy f=>hl y (c_ _ f);rw[List.forIn_cons,cO];by_cases b:(k==NameKind.free)=true
    ·obtain⟨c,hc⟩:=hl (n,k) cY (by simpa using b);have hc:env.cells.lookup n=some c:=hc;have e:cellOf env n=pure c:=by unfold cellOf;rw[hc]
     simp only[b,if_true,e,pure_bind,hc,Option.getD_some];exact d _ hr
    ·simp only[b,if_false,pure_bind];exact d _ hr
 have q:=go scope.names [] h;simp only[bind_pure];exact q
theorem jm{env:Env}{x:Str}:∀(l:List (Str×NameKind))(cs:List (Str×Addr)),(∃c,cs.lookup x=some c)->∃c,(cO env l cs).lookup x=some c
 |[],_,h=>h
 |(n,k)::r,cs,h=>by
  rw[cO];refine jm r _ ?_;by_cases a:(k==NameKind.free)=true;·rw[if_pos a,jc];cases x==n with|true=>exact⟨_,rfl⟩|false=>exact h
  ·rw[if_neg a];exact h
theorem gj{env:Env}{x:Str}:∀(l:List (Str×NameKind))(cs:List (Str×Addr)),(x,NameKind.free)∈l->∃c,(cO env l cs).lookup x=some c
 |[],_,h=>by cases h
 |(n,k)::r,cs,h=>by
  rw[cO];rcases List.mem_cons.mp h with e|h;·cases e;refine jm r _ ?_;rw[if_pos (by decide),jc,beq_self_eq_true];exact⟨_,rfl⟩
  ·exact gj r _ h
theorem gQ{env:Env}:∀(l:List (Str×NameKind))(cs:List (Str×Addr)),(∀x∈l,x.2= .free->∃c,env.cells.lookup x.1=some c)->(∀x c,cs.lookup x=some c->env.cells.lookup x=some c)->∀x c,(cO env l cs).lookup x=some c->env.cells.lookup x=some c
 |[],_,_,h=>h
 |(n,k)::r,cs,hl,h=>by
  rw[cO];refine gQ r _ (λy g=>hl y (c_ _ g)) λx c e=>?_;by_cases b:(k==NameKind.free)=true
  ·rw[if_pos b,jc]at e;cases d:x==n with
    |true=>
     rw[d]at e;obtain rfl:x=n:=by simpa using d
     obtain⟨f,a⟩:=hl (x,k) cY (by simpa using b);have a:env.cells.lookup x=some f:=a;rw[a]at e⊢;exact e
    |false=>rw[d]at e;exact h x c e
  ·rw[if_neg b]at e;exact h x c e
theorem jb{env:Env}:∀{l:List (Str×NameKind)}{x:Str},l.lookup x=some .free->(l.map λ(p:Str×NameKind)=>if(p.2==NameKind.free&&env.scope.kind== .function&&env.kindOf p.1==some .cell)then(p.1,NameKind.cell)else(p.1,p.2)).lookup x=some .cell\/(l.map λ(p:Str×NameKind)=>if(p.2==NameKind.free&&env.scope.kind== .function&&env.kindOf p.1==some .cell)then(p.1,NameKind.cell)else(p.1,p.2)).lookup x=some .free
 |[],_,h=>by simp at h
 |(n,k)::r,x,h=>by
  have b:=@jb env r x;rw[jc]at h;rw[eO];by_cases hc:(k==NameKind.free&&env.scope.kind== .function&&env.kindOf n==some .cell)=true;·simp only[hc,if_true];rw[jc];cases a:x==n with|true=>exact .inl rfl|false=>rw[a]at h;exact b h
  ·simp only[hc,gK,if_false];rw[jc];cases a:x==n with|true=>rw[a]at h;exact .inr h|false=>rw[a]at h;exact b h
theorem mz{env:Env}:∀{l:List (Str×NameKind)}{x:Str},(∀y∈l,y.2≠ .cell)->((l.map λ(p:Str×NameKind)=>if(p.2==NameKind.free&&env.scope.kind== .function&&env.kindOf p.1==some .cell)then(p.1,NameKind.cell)else(p.1,p.2)).lookup x=some .cell\/(l.map λ(p:Str×NameKind)=>if(p.2==NameKind.free&&env.scope.kind== .function&&env.kindOf p.1==some .cell)then(p.1,NameKind.cell)else(p.1,p.2)).lookup x=some .free)->(x,NameKind.free)∈l
 |[],_,_,h=>by simp at h
 |(n,k)::r,x,hl,h=>by
  have b:=@mz env r x λy c=>hl y (c_ _ c);rw[eO]at h;by_cases hc:(k==NameKind.free&&env.scope.kind== .function&&env.kindOf n==some .cell)=true
  ·simp only[hc,if_true]at h;rw[jc]at h;cases a:x==n with
    |true=>
     obtain rfl:x=n:=by simpa using a
     have :k= .free:=by simp only[cw]at hc;simpa using hc.1.1
     rw[this];exact cY
    |false=>rw[a]at h;exact c_ _ (b h)
  ·simp only[hc,gK,if_false]at h;rw[jc]at h;cases a:x==n with
    |true=>
     rw[a]at h;obtain rfl:x=n:=by simpa using a
     rcases h with h|h;·exact absurd (Option.some.inj h) (hl (x,k) cY)
     ·have :k= .free:=Option.some.inj h;rw[this];exact cY
    |false=>rw[a]at h;exact c_ _ (b h)
noncomputable abbrev ve(X:Cx)(scope:Scope)(C:Addr):Env:=compEnvC scope (cO X.env scope.names []) C X.env
noncomputable abbrev cC(X:Cx)(N':List Str)(scope:Scope)(a:Shared)(b:Hp)(fp:List Addr):Cx:={X with N:=N',bG:=a,H₀:=b,env:=ve X scope a.heap.objs.size,outer:=X.stack,stack:=X.stack,ex:=fp,fn:=λ_=>false,pn:=X.pn,xe:=λ_ _=>False}
noncomputable def eK(own:Nat)(fr:List Nat)(σ:L2.St):L2.St:=List.replicate own none++fr.map λi=>(σ[i]?).join
structure ja(X:Cx)(N':List Str)(own:Nat)(fr:List Nat)(scope:Scope):Prop where
 kind:scope.kind= .function
 jP:∀y∈scope.names,y.2≠ .cell
 loc:∀x∈scope.names,x.2= .local->scope.names.lookup x.1=some .local
 free:∀x∈scope.names,x.2= .free->X.env.kindOf x.1=some .cell\/X.env.kindOf x.1=some .free
 len:N'.length=own+fr.length
 fr:∀j i,fr[j]?=some i->∃x,N'[own+j]?=some x/\X.N[i]?=some x/\scope.names.lookup x=some .free
theorem m9{fs ex:List Addr}{H H':Hp}{h h1 h2:Heap}{C:Addr}(u:Un fs ex H H' h h1)(d:h.objs.size<=C)(c:Heap.SameBut C h1 h2):Un fs ex H H' h h2:=by
 have ne:∀b o,h.get? b=some o->b≠C:=λb o e=>zQ18 (dQ (zQ05 e) d);refine⟨λb o e n hb a=>(c.2 b (ne b o e)).trans (u.keep b o e n hb a),λb o e n hb a=>?_,u.free,λb o e a=>?_,u.ny,u.mL,u.lL⟩;·obtain⟨sl,q⟩:=u.slot b o e n hb a;exact⟨sl,(c.2 b (ne b o e)).trans q⟩
 ·obtain⟨o',q⟩:=u.there b o e a;exact⟨o',(c.2 b (ne b o e)).trans q⟩
theorem sG{P:Program}{w:World}{H:Hp}{h h2:Heap}{C:Addr}(k:fL P w H h)(a:H C=none)(d:Heap.SameBut C h h2):fL P w H h2:=λb ob e=>by
 refine(k b ob e).nF (λc f hc q=>(d.2 c ?_).trans q) (λ_ q=>q) λ_ _ q=>q;rintro rfl;rcases hc with rfl|hc;·rw[a]at e;cases e
 ·rw[a]at hc;cases hc
noncomputable def vW(Y:Cx)(a:List Expr)(b:TT):Prop:=∀(pins:List (Addr×Obj))(s:Shared)(σ:L2.St)(H:Hp)(Q:Bool->Hp->Prop),Inv Y pins σ H s->b σ H Q->wpAny (model Y.prog Y.w) Y.A (forIn a true λc r=>if r=true then do let ok<-isTrue c Y.env (eval c Y.env);pure (ForInStep.yield ok)else pure (ForInStep.yield r)) (TP Y pins σ Q) Y.xe s
noncomputable def vB:TT:=λ_ H Q=>Q true H
theorem qb{Y:Cx}:vW Y [] vB:=λ_ _ _ H _ I h=>wpAny_tests_nil ⟨H,I,h⟩
theorem vS{Y:Cx}{c:Expr}{t:TT}(h:PT Y c t):vW Y [c] t:=λpins s σ H Q I hq=>wpAny_tests_one (h pins s σ H Q I hq)
section
variable{prog:Program}{w:World}{A:Around}{R:Result->Shared->Prop}{s:Shared}
theorem jZ{b target iter:Expr}{d:List Expr}{scope:Scope}{i:Pos}{it a:Value}{env:Env}(J:Nat->Shared->Prop)(turn:∀n s,J n s->wpAny (model prog w) A (pyNext it) (λr s₁=>match r with|none=>R (.ok .next) s₁|some v=>wpAny (model prog w) A (letOwnedTupleGo target it v) (λ_ bG=>wpAny (model prog w) A (assign target env v) (λ_ s₂=>wpAny (model prog w) A (forIn d true λc r=>if r=true then do let ok<-isTrue c env (eval c env);pure (ForInStep.yield ok)else pure (ForInStep.yield r)) (λok e=>if ok=true then wpAny (model prog w) A (eval b env) (λx j=>wpAny (model prog w) A (call (.builtin "list.append") [a,x]) (λ_ k=>∃m,m<n/\J m k) (λ_ _=>False) j) (λ_ _=>False) e else∃m,m<n/\J m e) (λ_ _=>False) s₂) (λ_ _=>False) bG) (λ_ _=>False) s₁) (λ_ _=>False) s)(n:Nat)(h:J n s):codeAny (model prog w) A (.compLoop (.ListComp b [⟨target,iter,d,0⟩] scope i) 0 it a env) R s:=by refine codeAny_loop rfl J (λn s p=>?_) n h;show wpAny _ A ((compTurn (.ListComp b [⟨target,iter,d,0⟩] scope i) 0 it a env).onRaise (λx=>do noteFrame x env;theTreesLotGoes x)) _ _ s;refine wpAny_noted ?_;rw[compTurn_list];have no:∀{l:Type}{m:Sem l}{Q:l->Shared->Prop}{o:Value->Shared->Prop}{s':Shared},wpAny (model prog w) A m Q (λ_ _=>False) s'->wpAny (model prog w) A m Q o s':=λhm=>d9 hm (λ_ _ q=>q) λ_ _ f=>f.elim;refine zQ00 (wpAny_standAt (zQ00 (no (d9 (turn n s p) (λr s₁ h₁=>?_) λ_ _ h'=>h'))));cases r with|none=>exact zQ02 h₁|some v=>refine zQ00 (no (d9 h₁ (λ_ bG h₀=>zQ00 (no (d9 h₀ (λ_ s₂ t=>zQ00 (no (d9 t (λok e g=>?_) λ_ _ h'=>h'))) λ_ _ h'=>h'))) λ_ _ h'=>h'));cases ok with|false=>exact zQ02 ⟨rfl,g⟩|true=>exact zQ00 (zQ00 (no (d9 g (λx j u=>zQ00 (no (d9 u (λ_ k y=>zQ02 (zQ02 ⟨rfl,y⟩)) λ_ _ h'=>h'))) λ_ _ h'=>h')))
end
def Own(own:Nat)(g:TG):Prop:=∀v σ H Q,g v σ H Q->g v σ H λa b=>Q a b/\a.length=σ.length/\∀i,own<=i->a[i]?=σ[i]?
theorem iq{own i:Nat}(h:i<own):Own own (jY i):=λv σ H Q q=>⟨q,by simp,λj hj=>List.getElem?_set_ne (by lia)⟩
theorem Ar{own i j n:Nat}{K:PySem.W.Frag}(hi:i<own)(hj:j<own):Own own (Mc K n (Ak (jY i) (Ak (jY j) L6))):=by intro v σ H Q q;obtain⟨a,xs,b,c,d,x,r,e,y,h,f,g,q⟩:=q;refine⟨a,xs,b,c,d,x,r,e,y,h,f,g,q,by simp,λk l=>?_⟩;rw[List.getElem?_set_ne (by lia),List.getElem?_set_ne (by lia)]
noncomputable def Gu(own:Nat)(fr:List Nat)(o:TI)(g:TG)(n:TT)(l:TE):TE:=λσ H Q=>o σ H λJ d=>∀p,d p=none->∃W:Nat->Nat->List V->Hp->Prop,(∃m,W 0 m [] (upd d p (.lst [])))/\∀i m a b,W i m a b->(J.stop i b/\Q (.ref p) b)\/(J.go i b/\∀x e,J.rZ i b x e->g x (eK own fr σ) e λj k=>n j k λok f=>if ok=true then l j f λv h=>h p=some (.lst a)/\a.length<sizeLine/\∃c,c<m/\W (i+1) c (a++[v]) (upd h p (.lst (a++[v])))else∃c,c<m/\W (i+1) c a f)
theorem vU{X:Cx}{scope:Scope}{N':List Str}{own:Nat}{fr:List Nat}{pins:List (Addr×Obj)}{σ:L2.St}{f:Hp}{d:Shared}{h4:Heap}{fp:List Addr}{t4:Nat}{m:Str->Option Value}(S:ja X N' own fr scope)(a:Inv X pins σ f d)(g:∀b∈fp,iX X pins f b/\b<d.heap.objs.size)(keep:∀b o,d.heap.get? b=some o->h4.get? b=some o)(F:h4.Ns d.heap.objs.size m):Inv (cC X N' scope d f fp) [] (eK own fr σ) f {d with heap:=h4,toks:=t4}:=by
 have D:∀x∈scope.names,x.2= .free->∃c,X.env.cells.lookup x.1=some c:=λx s e=>a.ok.has x.1 (S.free x s e);have snd:∀x c,(cO X.env scope.names []).lookup x=some c->X.env.cells.lookup x=some c:=gQ _ _ D λx c e=>by simp at e
 have ok:(cC X N' scope d f fp).Ok:=by
  refine⟨a.ok.mod,S.kind,a.ok.glob,a.ok.blt,zQ04 _,λx y c h l=>a.ok.inj x y c (snd x c h) (snd y c l),λx s=>gj _ _ (mz S.jP s),λx c z=>(by cases z),a.ok.hd,a.ok.frames, .inl rfl,λb hb=>⟨zQ18 (g b hb).2,λx c e=>(g b hb).1.2.2.2.2.1 x c (snd x c e)⟩,a.bs,cu a.ok.uF a.sz,λb o e hb=>?_,λb hb H=>?_,a.stack,a.pI⟩
  ·rcases(g b hb).1.2.2.2.1 with z|z;·exact a.ok.mS b o e z
   ·exact absurd (dQ (zQ05 e) a.ok.uF) (Nat.not_lt.mpr z)
  ·rcases List.mem_cons.mp (a.eH b H)with z|z;·exact(g b hb).1.2.1 z
   ·exact(g b hb).1.2.2.1 z
 refine⟨ok,rfl,a.bare,Un.kept keep,⟨m,F,λi x v h1 h2 h3=>?_⟩,λx c e=>?_,a.bc.fresh (zQ04 _),λx c e=>a.cX x c (snd x c e),λp G=>?_,a.bc.kept keep,?_⟩
 ·have h1:N'[i]?=some x:=h1;have hi:¬i<own:=λz=>by unfold eK at h2;rw[uT (by simpa using z),List.getElem?_replicate]at h2;split at h2<;>cases h2
  obtain⟨j,rfl⟩:∃j,i=own+j:=⟨i-own,by lia⟩;unfold eK at h2;rw[List.getElem?_append_right (by simp),List.length_replicate,Nat.add_sub_cancel_left,fU]at h2;cases n:fr[j]? with
   |none=>rw[n]at h2;cases h2
   |some k=>
    rw[n]at h2;have h2:(σ[k]?).join=some v:=Option.some.inj h2;have I:σ[k]?=some (some v):=by cases q:σ[k]? with|none=>rw[q]at h2;cases h2|some M=>rw[q]at h2;exact congrArg some h2
    obtain⟨N,h,l,A⟩:=S.fr j k n;rw[h1]at h;cases h;have mem:=PySem.mem_of_lookup A;have B:=S.free _ mem rfl;obtain⟨L,K,E⟩:=a.loc;obtain⟨u,r,look⟩:=E k x v l I (.inr B);rcases look with⟨q,_⟩|⟨q,c,hc,o,ho,hd⟩
    ·rcases B with z|z;·have z:X.env.kindOf x=some .cell:=z;rw[z]at q;cases q
     ·have z:X.env.kindOf x=some .free:=z;rw[z]at q;cases q
    ·obtain⟨C,t⟩:=gj (env:=X.env) scope.names [] mem;have w:=snd x C t;rw[hc]at w;cases w;exact⟨u,r, .inr ⟨jb A,c,t,o,keep _ _ ho,hd⟩⟩
 ·obtain⟨v,o,ho,hd⟩:=a.cell x c (snd x c e);exact⟨v,o,keep _ _ ho,hd⟩
 ·obtain⟨q1,q2,q3,q4,J⟩:=a.pin p (jy _ (by simpa using G));refine⟨keep _ _ q1,q2,zQ18 (zQ05 q1),λz=>?_,J⟩;rcases List.mem_cons.mp (a.eH _ z)with z|z;·exact q3 z
  ·exact q4 z
 ·show(eK own fr σ).length=N'.length;unfold eK;rw[S.len,fK,List.length_replicate,cT]
theorem ll{X:Cx}{tg iter G:Expr}{O:List Expr}{scope:Scope}{pos:Pos}{wi:TI}{g:TG}{tt:TT}{te:TE}{N':List Str}{own:Nat}{fr:List Nat}(hc:X.calm=true)(S:ja X N' own fr scope)(hi:PI X tg iter wi)(ho:Own own g)(hg:∀A w fp,PG (cC X N' scope A w fp) tg g)(hf:∀A w fp,vW (cC X N' scope A w fp) O tt)(he:∀A w fp,PE (cC X N' scope A w fp) G te)(hs:∀x,foldedSetIterable iter X.env x=pure x:=by intro _;rfl):PE X (.ListComp G [⟨tg,iter,O,0⟩] scope pos) (Gu own fr wi g tt te):=by
 intro pins s σ H Q I h;have zQ:∀x∈scope.names,x.2= .free->∃c,X.env.cells.lookup x.1=some c:=λx hx e=>I.ok.has x.1 (S.free x hx e);rw[eval_ListComp];refine wpAny_comprehension_free (use:=none) rfl hs (mK zQ) S.kind S.loc ?_;refine bw (hi pins s σ H _ I h) λv s1 h1=>bw h1 λN3 s2 h2=>?_;obtain⟨it,fp,tn,J,d,e,I2,T,bJ,f2,h2⟩:=h2;subst e;refine gL (hd:=by size_fits) (wpAny_newFunctionEnv S.jP (by intro y hy;simp at hy) (λh4 M N=>?_) S.kind);have zS:=I2.bc.fresh (zQ04 s2.heap.objs.size);obtain⟨W,⟨m0,w0⟩,turn⟩:=h2 _ zS;have C:Inv X pins σ (upd d s2.heap.objs.size (.lst [])) {s2 with heap:=s2.heap.push {cls:= .type "list",dict:=none,data:= .seq ([]:List Value).toArray},toks:=s2.toks}:=I2.IA .nil (zQ11 _);have Lz:∀b∈fp,b<s2.heap.objs.size:=λb hb=>let⟨o,e,_⟩:=T.obj _ _ bJ b hb;zQ05 e;have PX:∀b o,s2.heap.get? b=some o->∀ob:Obj,(s2.heap.push ob).get? b=some o:=λb o e ob=>zQ01 _ e;have Lx:(s2.heap.push {cls:= .type "list",dict:=none,data:= .seq ([]:List Value).toArray}).objs.size=s2.heap.objs.size+1:=zQ21 ..;revert M N C;generalize e3:s2.heap.push {cls:= .type "list",dict:=none,data:= .seq ([]:List Value).toArray}=h3 at Lx⊢;intro M N C;have keep:∀b o,h3.get? b=some o->h4.get? b=some o:=λb o e=>(N.2 b (zQ18 (zQ05 e))).trans (zQ01 _ e);have K:∀b∈fp,iX X pins (upd d s2.heap.objs.size (.lst [])) b/\b<h3.objs.size:=λb hb=>by refine⟨⟨?_,(f2 b hb).2⟩,by rw[Lx];exact Nat.lt_succ_of_lt (Lz b hb)⟩;rw[aI (zQ18 (Lz b hb))];exact(f2 b hb).1
 have D:=vU (t4:=s2.toks+([]:List (Str×Value)).length) S C K keep M;have V:tn 0 h4:=T.keep _ _ _ bJ λb hb o e=>keep b o (by rw[<-e3];exact PX b o e _);have U:∀{H':Hp},(∀b∈fp,H' b=none)->∀b∈fp,iX (cC X N' scope {s2 with heap:=h3,toks:=s2.toks} (upd d s2.heap.objs.size (.lst [])) fp) [] H' b:=λ{H'}hn b hb=>⟨hn b hb,zQ18 (K b hb).2,λz=>D.ok.nI b hb z, .inl hb,(D.ok.GF b hb).2,λp hp=>(f2 b hb).2.2.2.2.2 p (jy _ (by simpa using hp))⟩;have loop:∀E:Shared,Inv (cC X N' scope {s2 with heap:=h3,toks:=s2.toks} (upd d s2.heap.objs.size (.lst [])) fp) [] (eK own fr σ) (upd d s2.heap.objs.size (.lst [])) E->tn 0 E.heap->codeAny (model X.prog X.w) X.A (.compLoop (.ListComp G [⟨tg,iter,O,0⟩] scope pos) 0 (.ref it) (.ref s2.heap.objs.size) (ve X scope h3.objs.size)) (compPost (model X.prog X.w) X.A X.xe none (EP X pins σ Q) (.ref s2.heap.objs.size) h3.objs.size) E:=by
  intro E Ix tx;refine jZ (λn s'=>∃i l H',Inv (cC X N' scope {s2 with heap:=h3,toks:=s2.toks} (upd d s2.heap.objs.size (.lst [])) fp) [] (eK own fr σ) H' s'/\tn i s'.heap/\(∀b∈fp,H' b=none)/\W i n l H') ?_ m0 ⟨0,[],_,Ix,tx,λb hb=>(K b hb).1.1,w0⟩;rintro n s5⟨i,l,B,I5,DN,GQ,w5⟩;rcases turn i n l B w5 with⟨stop,qn⟩|⟨go,step⟩;·refine bw (T.done (cC X N' scope {s2 with heap:=h3,toks:=s2.toks} (upd d s2.heap.objs.size (.lst [])) fp) rfl rfl rfl hc i [] s5 _ B (λ_ _=>False) I5 (U GQ) DN stop) λr s6 a=>?_;obtain⟨hr,m⟩:=a;subst hr;obtain⟨m6,Qq,_⟩:=id m.loc;refine⟨m6,Qq,λh7 RK=>⟨.ref s2.heap.objs.size,B,?_,rfl,qn⟩⟩;exact C.BB (s':={s6 with heap:=h7}) (ch:=fp) m.os (m9 m.base (zQ04 _) RK) (sG m.bc m.free RK) m.bare λb hb=>⟨(f2 b hb).2.2.2.1,(f2 b hb).2.1,(f2 b hb).2.2.2.2.1,(f2 b hb).2.2.2.2.2⟩
  ·refine bw (T.item (cC X N' scope {s2 with heap:=h3,toks:=s2.toks} (upd d s2.heap.objs.size (.lst [])) fp) rfl rfl rfl hc i [] s5 _ B (λ_ _=>False) I5 (U GQ) DN go) λr s6 a=>?_;obtain⟨u,hr,h6⟩:=a;subst hr;refine bw h6 λ_ s7 a=>?_;obtain⟨x,Z,I7,r7,y7,R,Pd⟩:=a;have Qg:=I7.pinned (U Pd) (T.obj _ _ R);refine bw (hg _ _ _ _ s7 _ Z x u _ Qg r7 (ho _ _ _ _ (step x Z y7))) λ_ s8 a=>?_;obtain⟨F,H8,I8,q8,l8,k8⟩:=a;have again:∀{k:Hp}{t:Shared},Inv (cC X N' scope {s2 with heap:=h3,toks:=s2.toks} (upd d s2.heap.objs.size (.lst [])) fp) ([]++jC fp s7.heap) F k t->Inv (cC X N' scope {s2 with heap:=h3,toks:=s2.toks} (upd d s2.heap.objs.size (.lst [])) fp) [] (eK own fr σ) k t/\tn (i+1) t.heap/\∀b∈fp,k b=none:=λ{k t}q=>by
    refine⟨q.gc.weak l8.symm λj v e=>?_,T.keep _ _ _ R λb hb o e=>(q.pin (b,o) (fJ _ (fJ _ (dh hb e)))).1,λb hb=>?_⟩
    ·have hj:own<=j:=by refine Nat.le_of_not_lt λz=>?_;unfold eK at e;rw[uT (by simpa using z),List.getElem?_replicate]at e;split at e<;>cases e
     rw[k8 j hj];exact e
    ·obtain⟨o,e,_⟩:=T.obj _ _ R b hb;exact(q.pin (b,o) (fJ _ (fJ _ (dh hb e)))).2.1
   refine bw (hf _ _ _ _ s8 F H8 _ I8 q8) λok t a=>?_;obtain⟨k,q,q9⟩:=a;cases ok with|false=>obtain⟨P,L,w9⟩:=q9;obtain⟨a1,a2,a3⟩:=again q;exact⟨P,L,i+1,l,k,a1,a2,a3,w9⟩|true=>refine bw (he _ _ _ _ t F k _ q q9) λy P_ a=>?_;obtain⟨v,Y,P4,OA,Im,Ir,P,L,QQ⟩:=a;refine bw (jq _ P_ F Y (.ref s2.heap.objs.size) [v] (.ref s2.heap.objs.size) [y] (λ_ Hn=>Hn=upd Y s2.heap.objs.size (.lst (l++[v]))) P4 rfl (.cons OA .nil) ⟨_,l,v,rfl,rfl,Im,Ir,rfl⟩) λ_ Vv a=>?_;obtain⟨_,We,Qf,_,OW⟩:=a;subst OW;obtain⟨a1,a2,a3⟩:=again Qf;exact⟨P,L,i+1,l++[v],_,a1,a2,a3,QQ⟩
 exact codeAny_compStart_list (loop _ D V) (d9 (T.self X.A 0 _ (λv s'=>v= .ref it/\s'=_) (λ_ _=>False) V ⟨rfl,rfl⟩) (λv s'⟨e1,e2⟩=>by subst e1;subst e2;exact loop _ D V) λ_ _ f=>f.elim)
def Nx(n i:Nat)(P:Prop):Prop:=∃a,a<n-i/\a=n-(i+1)/\i+1<=n/\P
theorem nx{n i:Nat}{P:Prop}(h:i<n)(p:P):Nx n i P:=⟨n-(i+1),by lia,rfl,h,p⟩
theorem lE{J:It}{p:Addr}{l:Hp}{g:TG}{q:TT}{o:TE}{b:L2.St}{Q:VK}(n:Nat)(Pv:Nat->List V->Hp->Prop)(r:Pv 0 [] (upd l p (.lst [])))(s:∀i a c,i<n->Pv i a c->J.go i c/\∀x d,J.rZ i c x d->g x b d λj k=>q j k λok e=>if ok=true then o j e λv f=>f p=some (.lst a)/\a.length<sizeLine/\Nx n i (Pv (i+1) (a++[v]) (upd f p (.lst (a++[v]))))else Nx n i (Pv (i+1) a e))(hd:∀a c,Pv n a c->J.stop n c/\Q (.ref p) c):∃W:Nat->Nat->List V->Hp->Prop,(∃m,W 0 m [] (upd l p (.lst [])))/\∀i m a c,W i m a c->(J.stop i c/\Q (.ref p) c)\/(J.go i c/\∀x d,J.rZ i c x d->g x b d λj k=>q j k λok e=>if ok=true then o j e λv f=>f p=some (.lst a)/\a.length<sizeLine/\∃h,h<m/\W (i+1) h (a++[v]) (upd f p (.lst (a++[v])))else∃h,h<m/\W (i+1) h a e):=by
 refine⟨λi m a H=>m=n-i/\i<=n/\Pv i a H,⟨n,by simp,zQ11 _,r⟩,?_⟩;rintro i m a c⟨rfl,hi,w⟩;by_cases hlt:i<n;·exact .inr (s i a c hlt w)
 ·obtain rfl:i=n:=by lia
  exact .inl (hd a c w)
end L3
end
section
namespace L3
open PySem L2
section
variable{prog:Program}{w:World}{A:Around}{E:Value->Shared->Prop}{s:Shared}
end
structure ju(z TI TO i1 i2:Nat)(f1 f2:List Nat):Prop where
 TIz:TI≠z
 TOz:TO≠z
 TITO:TI≠TO
 UN:TI≠i1
 VY:TI≠i2
 Wb:TO≠i1
 TQ:TO≠i2
 i1z:i1≠z
 i2z:i2≠z
 Pg:z∉f1
 SF:z∉f2
 SI:TO∉f1
 Rg:TO∉f2
 Ph:i2∉f1
 Qj:i1∉f2
section
variable{prog:Program}{w:World}{A:Around}{E:Value->Shared->Prop}{s:Shared}
variable{z TI TO i1 i2:Addr}{f1 f2:List Addr}{n1 n2:Nat}{P1 P2:Nat->Value->Prop}{S1 S2:Nat->Heap->Prop}
theorem zE{i:Nat}{a b:Value}{Q:Value->Shared->Prop}(D1:Draws prog w A i1 f1 n1 P1 S1)(D:Draws prog w A i2 f2 n2 P2 S2)(d:ju z TI TO i1 i2 f1 f2)(p:IsZip s.heap z TI TO .none)(R:IsPair s.heap TI (.ref i1) (.ref i2))(S:IsPair s.heap TO a b)(s1:S1 i s.heap)(s2:S2 i s.heap)(Z:i<n1)(l2:i<n2)(T:∀x y h' tk,P1 i x->P2 i y->IsZip h' z TI TO (rawInt s.heap.objs.size)->IsPair h' TO x y->S1 (i+1) h'->S2 (i+1) h'->IsPair h' s.heap.objs.size x y->(∀c o,c≠z->c≠TO->c≠i1->c≠i2->s.heap.get? c=some o->h'.get? c=some o)->Q (.ref s.heap.objs.size) {s with heap:=h',toks:=tk}):wpAny (model prog w) A (Builtin.«zip.__next__» ⟨[.ref z],[]⟩) (λfin s'=>∃v,fin= .done (.ret v)/\Q v s') E s:=by
 have r:∀{k:Nat}{h h':Heap}{c:Addr},c∉f1->Heap.SameBut c h h'->S1 k h->S1 k h':=λ{k h h' c}hc sb st=>D1.frame _ _ _ st λq hq o e=>(sb.2 q λz=>hc (z▸hq)).trans e;have t:∀{k:Nat}{h h':Heap}{c:Addr},c∉f2->Heap.SameBut c h h'->S2 k h->S2 k h':=λ{k h h' c}hc sb st=>D.frame _ _ _ st λq hq o e=>(sb.2 q λz=>hc (z▸hq)).trans e;show wpAny (model prog w) _ (field (.ref z) 2>>=_) _ _ _;refine zQ00 (cQ p rfl (x:= .bool false) rfl ?_);show wpAny (model prog w) _ (field (.ref z) 3>>=_) _ _ _;refine zQ00 (cQ p rfl (x:= .ref TI) rfl ?_);refine zQ00 (jL R rfl ?_);show wpAny (model prog w) _ (Builtin.SmallTypes.ownedTupleIsFree (.ref z)>>=_) _ _ _;refine zQ00 ?_;unfold Builtin.SmallTypes.ownedTupleIsFree;refine zQ00 (cQ p rfl (x:= .none) rfl (zQ02 ?_));simp only[if_true];refine zQ00 (wpAny_rule ?_);refine zQ00 (cQ p rfl (x:= .ref TO) rfl ?_);refine zQ00 (m7 p (by simp) λU I g=>?_);replace I:IsZip U z TI TO .ellipsis:=I;refine zQ00 ?_;simp only[List.zipIdx_cons,List.zipIdx_nil,List.forIn_cons,List.forIn_nil];refine zQ00 (zQ00 (wpAny_onRaise ?_));show wpAny (model prog w) _ (Builtin.SmallTypes.nextOf (.ref i1)>>=_) _ _ _;refine zQ00 (D1.item i _ _ _ Z (r d.Pg g s1) λx V t2 px q2 j=>zQ02 ?_);have o2:IsPair V TO a b:=j.extBut _ _ d.Wb (g.extBut _ _ d.TOz S);refine zQ00 (jL o2 rfl ?_);refine zQ00 (wpAny_updateSeq_pair o2 λW H l=>?_);replace H:IsPair W TO x b:=H;refine zQ00 (wpAny_letGo (zQ02 ?_));refine zQ00 (zQ00 (wpAny_onRaise ?_));show wpAny (model prog w) _ (Builtin.SmallTypes.nextOf (.ref i2)>>=_) _ _ _;refine zQ00 (D.item i _ _ _ l2 (t d.Rg l (t d.Qj j (t d.SF g s2))) λy X t4 py q4 m=>zQ02 ?_);have N:IsPair X TO x b:=m.extBut _ _ d.TQ H;refine zQ00 (jL N rfl ?_);refine zQ00 (wpAny_updateSeq_pair N λf B n=>?_);replace B:IsPair f TO x y:=B;refine zQ00 (wpAny_letGo (zQ02 (zQ02 ?_)));refine zQ00 (jL B rfl ?_);refine zQ00 (wpAny_newTuple ?_);have sz:f.objs.size=s.heap.objs.size:=by rw[n.1,m.1,l.1,j.1,g.1]
 have P:IsZip f z TI TO .ellipsis:=n.extBut _ _ d.TOz.symm (m.extBut _ _ d.i2z.symm (l.extBut _ _ d.TOz.symm (j.extBut _ _ d.i1z.symm I)));have kp:∀c o,c≠z->c≠TO->c≠i1->c≠i2->s.heap.get? c=some o->f.get? c=some o:=λc o c1 c2 F G e=>n.extBut _ _ c2 (m.extBut _ _ G (l.extBut _ _ c2 (j.extBut _ _ F (g.extBut _ _ c1 e))));have F3:S1 (i+1) f:=r d.SI n (r d.Ph m (r d.SI l q2));have FE:S2 (i+1) f:=t d.Rg n q4;have M:z<f.objs.size:=zQ05 P;show wpAny (model prog w) _ (Builtin.SmallTypes.ownedTupleHandOut (.ref z) (.ref f.objs.size)>>=_) _ _ _;refine zQ00 ?_;unfold Builtin.SmallTypes.ownedTupleHandOut;have z6:IsZip (f.push {cls:= .type "tuple",data:= .seq #[x,y]}) z TI TO .ellipsis:=zQ01 _ P;refine zQ00 (m7 z6 (by simp) λY J K=>?_);replace J:IsZip Y z TI TO (rawInt f.objs.size):=J;refine m7 J (by simp) λu C L=>?_;replace C:IsZip u z TI TO (rawInt f.objs.size):=C;have up:∀c o,c≠z->f.get? c=some o->u.get? c=some o:=λc o c1 e=>L.extBut _ _ c1 (K.extBut _ _ c1 (zQ01 _ e));have O:IsPair u f.objs.size x y:=L.extBut _ _ (Nat.ne_of_gt M) (K.extBut _ _ (Nat.ne_of_gt M) (zQ06 _ rfl));rw[sz]at C O;refine zQ02 ⟨_,rfl,?_⟩;show Q (.ref f.objs.size) _;rw[sz];exact T x y u _ px py C (up _ _ d.TOz B) (D1.frame _ _ _ F3 λq hq o e=>up q o (λz=>d.Pg (z▸hq)) e) (D.frame _ _ _ FE λq hq o e=>up q o (λz=>d.SF (z▸hq)) e) O λc o c1 c2 F G e=>up c o c1 (kp c o c1 c2 F G e)
theorem zl{a b:Value}{Q:Fin->Shared->Prop}(D1:Draws prog w A i1 f1 n1 P1 S1)(h:ju z TI TO i1 i2 f1 f2)(d:IsZip s.heap z TI TO .none)(p:IsPair s.heap TI (.ref i1) (.ref i2))(C:IsPair s.heap TO a b)(s1:S1 n1 s.heap)(r:∀h' e,(∀c o,c≠z->c≠TO->c≠i1->c≠i2->s.heap.get? c=some o->h'.get? c=some o)->(∃o,h'.get? e=some o/\o.cls= .type "StopIteration")->E (.ref e) {s with heap:=h'}):wpAny (model prog w) A (Builtin.«zip.__next__» ⟨[.ref z],[]⟩) Q E s:=by
 show wpAny (model prog w) _ (field (.ref z) 2>>=_) _ _ _;refine zQ00 (cQ d rfl (x:= .bool false) rfl ?_);show wpAny (model prog w) _ (field (.ref z) 3>>=_) _ _ _;refine zQ00 (cQ d rfl (x:= .ref TI) rfl ?_);refine zQ00 (jL p rfl ?_);show wpAny (model prog w) _ (Builtin.SmallTypes.ownedTupleIsFree (.ref z)>>=_) _ _ _;refine zQ00 ?_;unfold Builtin.SmallTypes.ownedTupleIsFree;refine zQ00 (cQ d rfl (x:= .none) rfl (zQ02 ?_));simp only[if_true];refine zQ00 (wpAny_rule ?_);refine zQ00 (cQ d rfl (x:= .ref TO) rfl ?_);refine zQ00 (m7 d (by simp) λt g i=>?_);replace g:IsZip t z TI TO .ellipsis:=g;refine zQ00 ?_;simp only[List.zipIdx_cons,List.zipIdx_nil,List.forIn_cons,List.forIn_nil];refine zQ00 (zQ00 (wpAny_onRaise ?_));show wpAny (model prog w) _ (Builtin.SmallTypes.nextOf (.ref i1)>>=_) _ _ _;refine zQ00 (D1.done _ _ _ (D1.frame _ _ _ s1 λq hq o e=>(i.2 q λy=>h.Pg (y▸hq)).trans e) λu e j he=>?_);obtain⟨oe,f,l⟩:=he;have m:IsZip u z TI TO .ellipsis:=j _ _ h.i1z.symm g;have B:e≠z:=λq=>by subst q;rw[m]at f;cases f;simp at l
 refine m7 m (by simp) λv _ k=>r v e (λc o c1 _ n _ q=>k.extBut _ _ c1 (j _ _ n (i.extBut _ _ c1 q))) ⟨oe,k.extBut _ _ B f,l⟩
theorem yE{i:Nat}{a b:Value}{Q:Option Value->Shared->Prop}(D1:Draws prog w A.in1 i1 f1 n1 P1 S1)(e:Draws prog w A.in1 i2 f2 n2 P2 S2)(f:ju z TI TO i1 i2 f1 f2)(d:IsZip s.heap z TI TO .none)(g:IsPair s.heap TI (.ref i1) (.ref i2))(h:IsPair s.heap TO a b)(s1:S1 i s.heap)(s2:S2 i s.heap)(k:i<n1)(l:i<n2)(j:∀x y h' tk,P1 i x->P2 i y->IsZip h' z TI TO (rawInt s.heap.objs.size)->IsPair h' TO x y->S1 (i+1) h'->S2 (i+1) h'->IsPair h' s.heap.objs.size x y->(∀c o,c≠z->c≠TO->c≠i1->c≠i2->s.heap.get? c=some o->h'.get? c=some o)->Q (some (.ref s.heap.objs.size)) {s with heap:=h',toks:=tk}):wpAny (model prog w) A (pyNext (.ref z)) Q E s:=by have ty:s.TypeIs (.ref z) "zip":=⟨_,d,rfl⟩;unfold pyNext;refine zQ00 (wpAny_attempt (wpAny_callSpecial?_slot (name:=Str.ofString "__next__") ty F.slot_zip_next (fF F.slot_zip_next ty F.entry_zip_next ?_ (F.args_zip_next_1 _))));exact zE D1 e f d g h s1 s2 k l λx y h' tk a1 a2 a3 a4 a5 a6 a7 a8=>zQ02 (j x y h' tk a1 a2 a3 a4 a5 a6 a7 a8)
theorem zj{a b:Value}{Q:Option Value->Shared->Prop}(D1:Draws prog w A.in1 i1 f1 n1 P1 S1)(f:ju z TI TO i1 i2 f1 f2)(d:IsZip s.heap z TI TO .none)(g:IsPair s.heap TI (.ref i1) (.ref i2))(h:IsPair s.heap TO a b)(s1:S1 n1 s.heap)(i:∀h',(∀c o,c≠z->c≠TO->c≠i1->c≠i2->s.heap.get? c=some o->h'.get? c=some o)->Q none {s with heap:=h'}):wpAny (model prog w) A (pyNext (.ref z)) Q E s:=by have ty:s.TypeIs (.ref z) "zip":=⟨_,d,rfl⟩;unfold pyNext;refine zQ00 (wpAny_attempt (wpAny_callSpecial?_slot (name:=Str.ofString "__next__") ty F.slot_zip_next (fF F.slot_zip_next ty F.entry_zip_next (zl D1 f d g h s1 λh' e j he=>?_) (F.args_zip_next_1 _))));obtain⟨o,ho,hc⟩:=he;refine zQ00 (wpAny_isInstance (T:="StopIteration") (b:=true) ⟨o,ho,hc⟩ isSubtype_stop (zQ02 (i _ j)))
end
section
variable{prog:Program}{w:World}{A:Around}{E:Value->Shared->Prop}{s:Shared}
end
end L3
end
section
namespace L3
open PySem PySem.Spec PyProof.Rows L2
section
variable{X:Cx}{pins:List (Addr×Obj)}{σ:L2.St}{H:Hp}{s:Shared}{h':Heap}
theorem yo{t':Nat}{ch:List Addr}{T:Addr}{o:HO}(I:Inv X pins σ H s)(k:∀b ob,b∉ch->s.heap.get? b=some ob->h'.get? b=some ob)(a:∀b∈ch,iX X pins H b)(hT:s.heap.objs.size<=T)(new:bC X.prog X.w (upd H T o) h' T o):Inv X pins σ (upd H T o) {s with heap:=h',toks:=t'}:=by
 have hn:H T=none:=I.bc.fresh hT;have d:∀b u,H b=some u->b∉ch:=λb u e z=>by rw[(a b z).1]at e;cases e
 refine I.step (g':=s.gens) (d':=s.drawn) (ch:=ch) (λb hb=>⟨(a b hb).2.2.2.1,(a b hb).2.1,(a b hb).2.2.2.2.1,(a b hb).2.2.2.2.2⟩) (λb ob _ _ hc e _=>k b ob hc e) (λb ob _ _ hc e _=>⟨ob.slots,k b ob hc e⟩) (λb ob _ e n=>by rw[aI (zQ18 (dQ (zQ05 e) hT))];exact n) (λb ob hc e=>⟨ob,k b ob hc e⟩) (λb xs e=>by rw[aI (aA e hn)];exact e) (λb ob u e=>by rw[aI (aA e hn)];exact e) (λb ps e=>(by rw[aI (aA e hn),e])) (λm hm=>?_) (λb u e=>?_) I.bare;·obtain⟨ob,es,ep,ho,r⟩:=hm;exact⟨ob,es,ep,k _ ob (λz=>(a _ z).2.1 rfl) ho,r⟩
 ·by_cases hb:b=T;·subst hb;rw[aj]at e;cases e;exact new
  ·rw[aI hb]at e;refine(I.bc b u e).nF (λc v hc q=>k c v ?_ q) (λc q=>by rw[aI (aA q hn)];exact q) λc xs q=>by rw[aI (aA q hn)];exact q
   rcases hc with z|z;·rw[z];exact d b u e
   ·exact d c _ z
theorem DZ{t':Nat}{ch:List Addr}(I:Inv X pins σ H s)(k:∀b ob,b∉ch->s.heap.get? b=some ob->h'.get? b=some ob)(a:∀b∈ch,iX X pins H b):Inv X pins σ H {s with heap:=h',toks:=t'}:=by
 have d:∀b u,H b=some u->b∉ch:=λb u e z=>by rw[(a b z).1]at e;cases e
 refine I.step (g':=s.gens) (d':=s.drawn) (ch:=ch) (λb hb=>⟨(a b hb).2.2.2.1,(a b hb).2.1,(a b hb).2.2.2.2.1,(a b hb).2.2.2.2.2⟩) (λb ob _ _ hc e _=>k b ob hc e) (λb ob _ _ hc e _=>⟨ob.slots,k b ob hc e⟩) (λb ob _ e n=>n) (λb ob hc e=>⟨ob,k b ob hc e⟩) (λb xs e=>e) (λb ob u e=>e) (λb ps e=>(by rw[e])) (λm hm=>?_) (λb u e=>?_) I.bare;·obtain⟨ob,es,ep,ho,r⟩:=hm;exact⟨ob,es,ep,k _ ob (λz=>(a _ z).2.1 rfl) ho,r⟩
 ·refine(I.bc b u e).nF (λc v hc q=>k c v ?_ q) (λ_ q=>q) λ_ _ q=>q;rcases hc with z|z;·rw[z];exact d b u e
  ·exact d c _ z
end
noncomputable def Ob(z:Str):It:=⟨λi _=>i<z.cps.size,λi H x H'=>H'=H/\∃c,z.cps[i]?=some c/\x= .str ⟨#[c]⟩,λi _=>z.cps.size<=i⟩
theorem z3{P:Program}{w:World}{K:PySem.W.Frag}{tg:Expr}(it:Addr)(z:Str)(t:Tok):Turn P w K tg (Ob z) [it] it (λi h=>h.IsStrIter it (strIterType z) z t i)where
 mem:=by simp
 obj:=λi h st b hb=>by
  obtain rfl:b=it:=by simpa using hb
  obtain⟨o,e,c,d⟩:=st;exact⟨o,e,λv q=>by rw[d]at q;cases q⟩
 keep:=λi h h' st k=>by obtain⟨o,e,r⟩:=st;exact⟨o,k it (by simp) o e,r⟩
 item:=by
  intro X y hw p hc i pins s σ H E I l st j;subst y hw p;have hi:i<z.cps.size:=j;have a:z.cps[i]?=some z.cps[i]:=by simp[hi]
  obtain⟨m,f1,f2,f,n,g⟩:=l it (by simp);have fin:∀h',h'.IsStrIter it (strIterType z) z t (i+1)->Heap.SameBut it s.heap h'->∃u,some (Value.str ⟨#[z.cps[i]]⟩ s.toks)=some u/\wpAny (model X.prog X.w) X.A (letOwnedTupleGo tg (.ref it) u) (λ_ s2=>∃x H',Inv X pins σ H' s2/\RelV x u/\(Ob z).rZ i H x H'/\s2.heap.IsStrIter it (strIterType z) z t (i+1)/\∀b∈[it],H' b=none) E {s with heap:=h',toks:=s.toks+1}:=by intro h' aG sb;have B:Inv X pins σ H {s with heap:=h',toks:=s.toks+1}:=I.turned (λb o hb e=>(sb.2 b hb).trans e) m f1 f n g;obtain⟨o,e,c,d⟩:=id aG;refine⟨_,rfl,xy (s:={s with heap:=h',toks:=s.toks+1}) e c d (by unfold strIterType;split<;>decide) ⟨.str ⟨#[z.cps[i]]⟩,H,B,⟨_,rfl⟩,⟨rfl,_,a,rfl⟩,aG,λb hb=>(l b hb).1⟩⟩
  cases ha:z.cps.all (·<128)with
   |true=>
    have e:strIterType z="str_ascii_iterator":=by simp[strIterType,ha]
    rw[e]at st fin⊢;exact wpAny_pyNext_ascii_item st a fin
   |false=>
    have e:strIterType z="str_iterator":=by simp[strIterType,ha]
    rw[e]at st fin⊢;exact wpAny_pyNext_wide_item st a fin
 done:=by
  intro X y hw p hc i pins s σ H E I l st j;subst y hw p;have a:z.cps[i]?=none:=by have j:z.cps.size<=i:=j;simpa using j
  obtain⟨m,f1,f2,f,n,g⟩:=l it (by simp);have fin:∀h',Heap.ExtBut it s.heap h'->(none:Option Value)=none/\Inv X pins σ H {s with heap:=h'}:=λh' C=>⟨rfl,I.turned (t':=s.toks) (λb o hb e=>C b o hb e) m f1 f n g⟩;cases ha:z.cps.all (·<128)with
   |true=>
    have e:strIterType z="str_ascii_iterator":=by simp[strIterType,ha]
    rw[e]at st;exact l_ (I.hb hc) (I.FC hc f g) st a fin
   |false=>
    have e:strIterType z="str_iterator":=by simp[strIterType,ha]
    rw[e]at st;exact ni (I.hb hc) (I.FC hc f g) st a fin
 self:=λA i s Q E st h=>by
  cases ha:z.cps.all (·<128)with
   |true=>
    have e:strIterType z="str_ascii_iterator":=by simp[strIterType,ha]
    rw[e]at st;exact wpAny_pyIter_striter_ascii st h
   |false=>
    have e:strIterType z="str_iterator":=by simp[strIterType,ha]
    rw[e]at st;exact wpAny_pyIter_striter_wide st h
noncomputable def Qz(tl:TE):TI:=λσ H R=>tl σ H λx a=>∃z,x= .str z/\R (Ob z) a
theorem Ji{X:Cx}{tg l:Expr}{tl:TE}(hl:PE X l tl):PI X tg l (Qz tl):=by
 intro pins s σ H R I h;refine bw (hl pins s σ H _ I h) λv s1 d=>?_;obtain⟨x,c,a,r1,z,e,q⟩:=d;subst e;obtain⟨t,rfl⟩:=r1;refine wpAny_pyIter_strU ?_;refine⟨s1.heap.objs.size,[s1.heap.objs.size],_,Ob z,c,rfl,a.kept (t':=s1.toks) λb o e=>zQ01 _ e,z3 _ z t,⟨_,zQ06 _ rfl,rfl,rfl⟩,λb hb=>?_,q⟩;obtain rfl:b=s1.heap.objs.size:=by simpa using hb
 exact a.Ad (zQ04 _) (a.bc.fresh (zQ04 _))
structure Uk(a b z TI TO i1 i2:Addr)(i:Nat)(h:Heap):Prop where
 z:IsZip h z TI TO .none
 TI:IsPair h TI (.ref i1) (.ref i2)
 TO:∃u v,IsPair h TO u v
 i1:h.IsTupleIter i1 a i
 i2:h.IsTupleIter i2 b i
section
variable{X:Cx}
theorem dN:kh X (.builtin "isinstance") (λxs H Q=>∃x t n b,xs=[x, .ty n]/\hU X.K H x t/\PySem.W.kitOne X.K t (.type n)=some b/\Q (.bl b) H):=by intro pins s σ H xs us Q I r h;obtain⟨x,t,n,b,rfl,ty,e,q⟩:=h;obtain⟨u,v,rfl,a,c⟩:=r.two;obtain rfl:v=Value.type n:=c;exact zD I a ty e λtk=>⟨.bl b,H,I.tok tk,rfl,q⟩
end
structure mZ(K:PySem.W.Frag)(a:Addr)(D:List (Str×V)):Prop where
 sys:(a==sysModules)=false
 ex:∃o es ep,K.lookup a=some o/\o.ExactDict/\o.data= .dict es ep/\KTD.Rows RelV es.toList D
section
variable{X:Cx}{pins:List (Addr×Obj)}{σ:L2.St}{H:Hp}{s:Shared}{a:Addr}{D:List (Str×V)}{k:Str}{tk:Tok}{A:Around}{E:Value->Shared->Prop}
theorem mZ.typeIs(T:mZ X.K a D)(I:Inv X pins σ H s):s.TypeIs (.ref a) "dict":=let⟨o,_,_,e,x,_⟩:=T.ex;⟨o,I.jo a o e,x.1⟩
theorem wO{Q:Option Value->Shared->Prop}(T:mZ X.K a D)(I:Inv X pins σ H s)(h1:∀v u,KTD.datumAt k D=some v->RelV v u->Q (some u) {s with toks:=s.toks+1})(h2:KTD.datumAt k D=none->Q none {s with toks:=s.toks+1}):wpAny (model X.prog X.w) A (dictGet a (.str k tk)) Q E s:=by
 obtain⟨_,o,es,ep,j,_,ed,f⟩:=T;have eo:=I.jo a o j;unfold dictGet;try with_reducible refine eh ?_
 have g:(es.all λe=>isExactStrKey e.key)=true:=by obtain⟨l⟩:=es;simpa using f.exact
 refine zQ00 (wpAny_pyHash_str (zQ00 (KTD.kt_dictFind_strs (s:={s with toks:=s.toks+1}) eo ed g ?_)));have b:Q (findBy (λk v=>v.isStr k) es k) {s with toks:=s.toks+1}:=by
  have h:findBy (λk v=>v.isStr k) es k=(es.toList.find? λe=>e.key.isStr k).map (·.val):=by obtain⟨l⟩:=es;simp[findBy]
  rw[h];cases c:KTD.datumAt k D with|some d=>obtain⟨v,hv,hr⟩:=f.find_some c;rw[hv];exact h1 d v c hr|none=>rw[f.find_none c];exact h2 c
 rw[findBy_of_findIdx?]at b;cases hi:es.findIdx? λe=>e.key.isStr k with|none=>rw[hi]at b;exact zQ02 b|some i=>rw[hi]at b;exact zQ00 (wpAny_dictEntries (s:={s with toks:=s.toks+1}) eo ed (zQ02 b))
theorem BC{Q:Value->Shared->Prop}{v:V}(T:mZ X.K a D)(I:Inv X pins σ H s)(hd:KTD.datumAt k D=some v)(h:∀u,RelV v u->Q u {s with toks:=s.toks+1}):wpAny (model X.prog X.w) A (getItem (.ref a) (.str k tk)) Q E s:=by
 have ty:=T.typeIs I;unfold getItem;try with_reducible refine eh ?_
 refine zQ00 (wpAny_sequenceKey ty (by decide) ?_);refine zQ00 (wpAny_callSpecial?_slot (name:=Str.ofString "__getitem__") ty slot_dict_getitem (fF slot_dict_getitem ty entry_dict_getitem ?_ (args_dict_getitem _ _)));show wpAny (model X.prog X.w) _ (dictGet a (.str k tk)>>=_) _ _ s;refine zQ00 (wO T I (λb u e r=>?_) λhn=>?_);·rw[hd]at e;cases e;exact zQ02 ⟨u,rfl,zQ02 (h u r)⟩
 ·rw[hd]at hn;cases hn
end
section
variable{X:Cx}
noncomputable def Pp(K:PySem.W.Frag):R2:=λx y H Q=>∃a D k v,x= .ref a/\y= .str k/\mZ K a D/\KTD.datumAt k D=some v/\Q v H
theorem Jn{o i:Expr}{m:Pos}{c ty:TE}(ho:PE X o c)(hi:PE X i ty)(l:HZ i):PE X (.Subscript o i m) (LC (Pp X.K) c ty):=by intro pins s σ H Q I h;refine xN PySem.F.slot_dict_getitem.lookup l (bw (ho pins s σ H _ I h) λu s1⟨x,d,g,n,q1⟩=>bw (hi pins s1 σ d _ g q1) λw s2 q=>?_);obtain⟨y,f,b,p,a,D,k,v,ex,j,T,e,q2⟩:=q;subst ex j;cases n;obtain⟨t,rfl⟩:=p;exact⟨T.typeIs b,BC T b e λu r=>⟨v,f,b.tok _,r,q2⟩⟩
end
end L3
end
section
namespace KM
open PySem
inductive D where|a_|bl(b:Bool)|int(i:Int)|str(x:Str)|tup(ds:List D)deriving Inhabited
mutual noncomputable def aB:D->Nat| .tup ds=>1+aC ds| .a_=>0| .bl _=>0| .int _=>0| .str _=>0 noncomputable def aC:List D->Nat|[]=>0|d::r=>aB d+aC r end
mutual noncomputable def depth:D->Nat| .tup ds=>1+az ds| .a_=>0| .bl _=>0| .int _=>0| .str _=>0 noncomputable def az:List D->Nat|[]=>0|d::r=>max (depth d) (az r)end
noncomputable def isTup:D->Bool| .tup _=>true|_=>false
noncomputable def tk:D->List D| .tup ds=>ds.filter isTup|_=>[]
noncomputable def lv:Nat->List D->List D|0,l=>l|n+1,l=>lv n (l.flatMap tk)
theorem gO:∀l:List D,aC (l.filter isTup)=aC l|[]=>rfl|d::r=>by have a:=gO r;cases d<;>simp[isTup,List.filter_cons,aC,aB,a]
theorem gR:∀l:List D,az (l.filter isTup)=az l|[]=>rfl|d::r=>by have a:=gR r;cases d<;>simp[isTup,List.filter_cons,az,depth,a]
theorem ic:∀l r:List D,aC (l++r)=aC l+aC r|[],r=>by simp[aC]|d::l,r=>by simp[aC,ic l r];lia
theorem ig:∀l r:List D,az (l++r)=max (az l) (az r)|[],r=>by simp[az]|d::l,r=>by simp only[List.cons_append,az,ig l r];exact(Nat.max_assoc _ _ _).symm
theorem CL:∀d:D,isTup d=true->aB d=1+aC (tk d)| .tup ds,_=>by simp[aB,tk,gO]
theorem tj:∀d:D,isTup d=true->depth d=1+az (tk d)| .tup ds,_=>by simp[depth,tk,gR]
theorem Ea(d:D):∀x∈tk d,isTup x=true:=by cases d<;>simp[tk]
theorem mR:∀l:List D,(∀x∈l,isTup x=true)->aC l=l.length+aC (l.flatMap tk)|[],_=>rfl|d::r,h=>by have h1:=mR r λx a=>h x (c_ _ a);have h2:=CL d (h d cY);simp only[List.flatMap_cons,ic,aC,gH];lia
theorem hZ:∀l:List D,(∀x∈l,isTup x=true)->l≠[]->az l=1+az (l.flatMap tk)|[],_,h=>(h rfl).elim|[d],h,_=>by have h2:=tj d (h d cY);simp only[List.flatMap_cons,List.flatMap_nil,List.append_nil,az];lia|d::e::r,h,_=>by have h1:=hZ (e::r) (λx a=>h x (c_ _ a)) (by simp);have h2:=tj d (h d cY);rw[List.flatMap_cons,ig];have h3:az (d::e::r)=max (depth d) (az (e::r)):=rfl;lia
theorem jx(l:List D):∀x∈l.flatMap tk,isTup x=true:=by intro x a;obtain⟨d,_,h⟩:=List.mem_flatMap.mp a;exact Ea d x h
theorem Cg:∀n,lv n []=[]|0=>rfl|n+1=>by rw[lv,List.flatMap_nil];exact Cg n
theorem lB:∀n l,lv (n+1) l=(lv n l).flatMap tk|0,l=>rfl|n+1,l=>by rw[lv,lB n,<-lv]
theorem x_:∀n l,(∀x∈l,isTup x=true)->∀x∈lv n l,isTup x=true|0,_,h=>h|n+1,l,_=>x_ n _ (jx l)
noncomputable def eA:Nat->List D->Nat|0,_=>0|n+1,l=>eA n l+(lv n l).length
theorem mD:∀n l,eA (n+1) l=l.length+eA n (l.flatMap tk)|0,l=>by simp[eA,lv]|n+1,l=>by have :=mD n l;simp only[eA]at this⊢;rw[show lv (n+1) l=lv n (l.flatMap tk)from rfl];lia
theorem h8:∀n l,(∀x∈l,isTup x=true)->aC l=eA n l+aC (lv n l)|0,l,_=>by simp[eA,lv]|n+1,l,h=>by have h1:=mR l h;have h2:=h8 n (l.flatMap tk) (jx l);rw[mD,show lv (n+1) l=lv n (l.flatMap tk)from rfl];lia
theorem mv:∀n l,(∀x∈l,isTup x=true)->(lv n l=[]↔az l<=n)
 |0,l,h=>by
  cases l with
   |nil=>simp[lv,az]
   |cons d r=>
    have :=hZ (d::r) h (by simp);simp only[lv];constructor;·intro q;cases q
    ·intro q;lia
 |n+1,l,h=>by cases l with|nil=>simp[Cg,az]|cons d r=>have h1:=hZ (d::r) h (by simp);have h2:=mv n ((d::r).flatMap tk) (jx _);rw[show lv (n+1) (d::r)=lv n ((d::r).flatMap tk)from rfl,h2];lia
theorem mT(n:Nat)(l:List D)(h:∀x∈l,isTup x=true):eA n l<=aC l:=by have :=h8 n l h;lia
theorem yH(l:List D)(h:∀x∈l,isTup x=true):(eA 40 l<=600/\lv 40 l=[])↔(aC l<=600/\az l<=40):=by
 rw[mv 40 l h];have e:=h8 40 l h;constructor;·rintro⟨h1,h2⟩;rw[(mv 40 l h).mpr h2]at e;simp only[aC]at e;exact⟨by lia,h2⟩
 ·rintro⟨h1,h2⟩;exact⟨by lia,h2⟩
theorem EM{ds:List D}{n:Nat}(h:az ds<=n):depth (.tup ds)<=n+1:=by simp only[depth];lia
theorem hV{d:D}{ds:List D}{n:Nat}(h1:depth d<=n)(h2:az ds<=n):az (d::ds)<=n:=by simp only[az];exact Nat.max_le.mpr ⟨h1,h2⟩
theorem DB{n:Nat}:az []<=n:=zQ11 _
theorem D5{x:Str}{n:Nat}:depth (.str x)<=n:=zQ11 _
theorem Ka{x:Str}{n:Nat}(h:1<=n):depth (.tup [.str x])<=n:=by simpa[depth,az]using h
theorem VD{x:Str}{i:Int}{n:Nat}(h:1<=n):depth (.tup [.str x, .int i])<=n:=by simpa[depth,az]using h
end KM
end
section
namespace L3
open PySem PySem.Spec PyProof.Rows L2 KM
mutual/--v stands for d on the heap H -/noncomputable def Rep(H:Hp):D->V->Prop| .a_,v=>v= .a_| .bl b,v=>v= .bl b| .int i,v=>v= .int i| .str x,v=>v= .str x/\x.length<=1000| .tup ds,v=>∃a vs,v= .ref a/\H a=some (.tup vs)/\bb H ds vs noncomputable def bb(H:Hp):List D->List V->Prop|[],vs=>vs=[]|d::ds,vs=>∃v r,vs=v::r/\Rep H d v/\bb H ds r end
mutual theorem Rep.mono{H H':Hp}(h:aK H H'):∀{d:D}{v:V},Rep H d v->Rep H' d v| .a_,_,r=>r| .bl _,_,r=>r| .int _,_,r=>r| .str _,_,r=>r| .tup _,_,⟨a,vs,e,q,r⟩=>⟨a,vs,e,h _ _ q,bb.mono h r⟩theorem bb.mono{H H':Hp}(h:aK H H'):∀{ds:List D}{vs:List V},bb H ds vs->bb H' ds vs|[],_,r=>r|_::_,_,⟨v,r,e,q,t⟩=>⟨v,r,e,Rep.mono h q,bb.mono h t⟩end
theorem bb.length{H:Hp}:∀{ds:List D}{vs:List V},bb H ds vs->vs.length=ds.length|[],_,r=>by have r:_=[]:=r;rw[r];rfl|_::_,_,⟨v,r,e,q,t⟩=>by rw[e,gH,gH,bb.length t]
theorem bb.get{H:Hp}:∀{ds:List D}{vs:List V}{i:Nat}{d:D},bb H ds vs->ds[i]?=some d->∃v,vs[i]?=some v/\Rep H d v|[],_,_,_,_,e=>by simp at e|d::_,_,0,_,⟨v,r,e,q,t⟩,h=>by simp at h;subst h;exact⟨v,by rw[e];rfl,q⟩|_::ds,_,i+1,d,⟨v,r,e,q,t⟩,h=>by obtain⟨u,h1,h2⟩:=bb.get (i:=i) t (by simpa using h);exact⟨u,by rw[e];simpa using h1,h2⟩
theorem bb.get'{H:Hp}{ds:List D}{vs:List V}{i:Nat}{v:V}(r:bb H ds vs)(e:vs[i]?=some v):∃d,ds[i]?=some d/\Rep H d v:=by have hi:i<vs.length:=(List.getElem?_eq_some_iff.mp e).1;rw[r.length]at hi;obtain⟨u,h1,h2⟩:=r.get (d:=ds[i]) (i:=i) (by simp[hi]);rw[e]at h1;cases h1;exact⟨ds[i],by simp[hi],h2⟩
theorem bb.append{H:Hp}:∀{ds es:List D}{vs us:List V},bb H ds vs->bb H es us->bb H (ds++es) (vs++us)|[],_,_,_,r,q=>by have r:_=[]:=r;subst r;exact q|_::_,_,_,_,⟨v,r,e,p,t⟩,q=>by subst e;exact⟨v,r++_,rfl,p,bb.append t q⟩
theorem bb.one{H:Hp}{d:D}{v:V}(r:Rep H d v):bb H [d] [v]:=⟨v,[],rfl,r,rfl⟩
theorem bb.snoc{H:Hp}{ds:List D}{vs:List V}{d:D}{v:V}(r:bb H ds vs)(q:Rep H d v):bb H (ds++[d]) (vs++[v]):=r.append (bb.one q)
noncomputable def QI:D->String| .a_=>"NoneType"| .bl _=>"bool"| .int _=>"int"| .str _=>"str"| .tup _=>"tuple"
theorem Rep.ty{K:PySem.W.Frag}{H:Hp}:∀{d:D}{v:V},Rep H d v->hU K H v (.type (QI d))| .a_,_,r=>by cases(show _=V.a_ from r);exact .a_| .bl b,_,r=>by cases(show _=V.bl b from r);exact .bl b| .int i,_,r=>by cases(show _=V.int i from r);exact .int i| .str x,_,r=>by cases(show _=V.str x from r.1);exact .str x| .tup _,_,⟨a,vs,e,q,_⟩=>by cases e;exact .tup q
noncomputable def av:D->Bool| .str _=>true|_=>false
noncomputable def Ll:D->Bool| .bl _=>true|_=>false
theorem rF(K:PySem.W.Frag)(d:D):PySem.W.kitOne K (.type (QI d)) (.type "tuple")=some (isTup d):=by cases d<;>rfl
theorem AR(K:PySem.W.Frag)(d:D):PySem.W.kitOne K (.type (QI d)) (.type "bool")=some (Ll d):=by cases d<;>rfl
theorem ah{H:Hp}{p:Addr}(h:H p=none)(o:HO):aK H (upd H p o):=λb u q=>by rw[aI (aA q h)];exact q
end L3
end
section
namespace L3
open PySem PySem.Spec PyProof.Rows L2
noncomputable def QJ(e:TE)(tl f ts:TO):TE:=λσ H Q=>e σ H λx a=>tl σ a λ_ b=>f σ b λ_ c=>ts σ c λst d=>∃z,x= .str z/\z.length<=sizeLine/\st≠some 0/\∀y:Str,y.length<=z.length->Q (.str y) d
theorem part_of{u:Value}{o:Option Int}(p:IsPart u o):∃q:Option (Int×Tok),u=partValue q/\q.map (·.1)=o:=by cases p with|none=>exact⟨none,rfl,rfl⟩|int i t=>exact⟨some (i,t),rfl,rfl⟩
theorem mn{X:Cx}{e:Expr}{lo hi st:Option Expr}{j R:Pos}{r:TE}{tl w ts:TO}(he:PE X e r)(hl:PO X lo tl)(N:PO X hi w)(ht:PO X st ts)(hb:∀o i,∃ops,subscripted (.Slice lo hi st j) false o i=operate ops (getItem o i):=by intro o i;exact⟨_,rfl⟩):PE X (.Subscript e (.Slice lo hi st j) R) (QJ r tl w ts):=by
 intro pins s σ H Q I h;refine Subscript_ (bw (he pins s σ H _ I h) λv s1 m=>?_);obtain⟨x,A,D,r1,q1⟩:=m;refine wpAny_Slice (bw (hl pins s1 σ A _ D q1) λY s2⟨l,B,E,P,q2⟩=>bw (N pins s2 σ B _ E q2) λvu U⟨u,C,F,S,q3⟩=>bw (ht pins U σ C _ F q3) λZ a m=>?_);obtain⟨t,n,G,pt,z,K,O,M,q⟩:=m;subst K;obtain⟨tk,rfl⟩:=r1;obtain⟨d,rfl,V⟩:=part_of P;obtain⟨f,rfl,W⟩:=part_of S;obtain⟨c,rfl,L⟩:=part_of pt;have J:Inv X pins σ n {a with heap:=a.heap.push {cls:= .type "slice",data:= .fields #[partValue d,partValue f,partValue c]}}:=G.kept (t':=a.toks) λb ob q=>zQ01 _ q;have p:((c.map (·.1)).getD 1==0)=false:=by rw[L];cases t with|none=>rfl|some i=>simpa usingλz=>M (by rw[z])
 show wpAny (model X.prog X.w) X.A (subscriptTail e (.Slice lo hi st j) (.str z tk) (.ref a.heap.objs.size)) (EP X pins σ Q) X.xe _;obtain⟨ops,hb⟩:=hb (.str z tk) (.ref a.heap.objs.size);refine tail_any (ops:=ops) (T:="str") (typeIs_str _ _ _) PySem.F.slot_str_getitem.lookup (wpAny_getItem_str_slice (l:=d) (u:=f) (st:=c) ⟨_,zQ06 _ rfl,rfl,rfl⟩ p ?_) hb;have fin:∀y:Str,y.length<=z.length->∀t' k,EP X pins σ Q (.str y t') {a with heap:=a.heap.push {cls:= .type "slice",data:= .fields #[partValue d,partValue f,partValue c]},toks:=k}:=λy g t' k=>⟨.str y,n,J.tok k,⟨t',rfl⟩,q y g⟩;unfold sliceMade;split;·exact fin z (zQ04 _) _ _
 ·have g:(Str.mk ((slicePicked z d f c).filterMap (z.cps[·]?)).toArray).length<=z.length:=by show(List.filterMap _ (slicePicked z d f c)).toArray.size<=z.length;rw[cG];refine cu (List.length_filterMap_le _ _) ?_;exact sliceIndicesBy_le _ _ _ (by simpa using p) z.length
  exact⟨cu g O,fin _ g _ _⟩
noncomputable def OG(t u:TS):TS:=λD σ H=>∃M:L2.St->Hp->Prop,t {D with nx:=M} σ H/\∀a H',M a H'->u D a H'
theorem d7{X:Cx}{st:Stmt}{rest:List Stmt}{t u:TS}(h1:PS X st t)(h2:fY X rest u):fY X (st::rest) (OG t u):=by intro pins s σ H D I h;obtain⟨M,h,c⟩:=h;refine wpAny_execs_cons (bw (h1 pins s σ H {D with nx:=M} I h) λf s1 q=>?_);cases f with|next=>obtain⟨a,H',b,q⟩:=q;exact h2 pins s1 a H' D b (c a H' q)|ret v=>exact q|brk=>exact q|cont=>exact q
theorem uS{J:It}{g:TG}{tb:TS}{D:Ends}{σ:L2.St}{H:Hp}(n:Nat)(Pv:Nat->L2.St->Hp->Prop)(h:Pv 0 σ H)(j:∀i σ H,i<n->Pv i σ H->J.go i H/\∀x H',J.rZ i H x H'->g x σ H' λc a=>tb {D with nx:=Pv (i+1),ct:=Pv (i+1),bk:=D.nx} c a)(hd:∀σ H,Pv n σ H->J.stop n H/\D.nx σ H):∃W:Nat->Nat->L2.St->Hp->Prop,(∃m,W 0 m σ H)/\∀i m σ H,W i m σ H->(J.stop i H/\D.nx σ H)\/(J.go i H/\∃N:L2.St->Hp->Prop,(∀b H',N b H'->∃d,d<m/\W (i+1) d b H')/\∀x H',J.rZ i H x H'->g x σ H' λc a=>tb {D with nx:=N,ct:=N,bk:=D.nx} c a):=by
 refine⟨λi m σ H=>m=n-i/\i<=n/\Pv i σ H,⟨n,by simp,zQ11 _,h⟩,?_⟩;rintro i m σ H⟨rfl,hi,p⟩;by_cases hlt:i<n;·obtain⟨e,f⟩:=j i σ H hlt p;exact .inr ⟨e,Pv (i+1),λb H' k=>⟨n-(i+1),by lia,rfl,hlt,k⟩,f⟩
 ·obtain rfl:i=n:=by lia
  exact .inl (hd σ H p)
def c8(p:Addr)(H H':Hp):Prop:=∀b o,b≠p->H b=some o->H' b=some o
theorem c8.trans{p:Addr}{H d e:Hp}(a:c8 p H d)(b:c8 p d e):c8 p H e:=λc o n h=>b c o n (a c o n h)
theorem _root_.L2.aK.x{p:Addr}{H H':Hp}(a:aK H H'):c8 p H H':=λc o _ h=>a c o h
theorem c8.upd{p:Addr}{H:Hp}(o:HO):c8 p H (upd H p o):=λb u n h=>by rw[aI n];exact h
mutual theorem Rep.kD{p:Addr}{H H':Hp}(h:c8 p H H')(hp:∀vs,H p≠some (.tup vs)):∀{d:KM.D}{v:V},Rep H d v->Rep H' d v| .a_,_,r=>r| .bl _,_,r=>r| .int _,_,r=>r| .str _,_,r=>r| .tup _,_,⟨a,vs,e,q,r⟩=>⟨a,vs,e,h _ _ (λz=>hp vs (by rw[<-z];exact q)) q,bb.kD h hp r⟩theorem bb.kD{p:Addr}{H H':Hp}(h:c8 p H H')(hp:∀vs,H p≠some (.tup vs)):∀{ds:List KM.D}{vs:List V},bb H ds vs->bb H' ds vs|[],_,r=>r|_::_,_,⟨v,r,e,q,t⟩=>⟨v,r,e,Rep.kD h hp q,bb.kD h hp t⟩end
section
variable{prog:Program}{w:World}{A:Around}{E:Value->Shared->Prop}{s:Shared}{d:Addr}{o:Obj}{es:Array DictEntry}{ep:Nat}{JY:Int}
end
section
variable{X:Cx}{pins:List (Addr×Obj)}{σ:L2.St}{H:Hp}{s:Shared}{a:Addr}{D:List (Str×V)}{A:Around}{E:Value->Shared->Prop}
end
end L3
end
section
namespace L3
open PySem L2
section
variable{prog:Program}{w:World}{A:Around}{E:Value->Shared->Prop}{s:Shared}
theorem JC{it t:Addr}{i:Nat}{d:Array Value}{x:Value}{Q:Value->Shared->Prop}(c:s.heap.IsListIter it t i)(gt:s.heap.IsList t d)(h:d[i]?=some x)(j:∀h',h'.IsListIter it t (i+1)->Heap.SameBut it s.heap h'->Q x {s with heap:=h'}):wpAny (model prog w) A (Builtin.SmallTypes.nextOf (.ref it)) Q E s:=by obtain⟨l,b,e,a⟩:=id c;obtain⟨m,g,_,k,f⟩:=gt;unfold Builtin.SmallTypes.nextOf;refine zQ00 (wpAny_callSpecial?_slot (name:=Str.ofString "__next__") c.typeIs slot_listiter_next (fF slot_listiter_next c.typeIs entry_listiter_next ?_ (args_listiter_next _)));show wpAny (model prog w) _ (field (.ref it) 0>>=_) _ _ s;refine zQ00 (cQ b a (x:= .ref t) rfl ?_);show wpAny (model prog w) _ (if(Value.ref t==Value.none)=true then _ else _) _ _ s;rw[if_neg (show¬(Value.ref t==Value.none)=true from dR)];show wpAny (model prog w) _ (field (.ref it) 1>>=_) _ _ s;refine zQ00 (cQ b a (x:= .int i 0) rfl ?_);show wpAny (model prog w) _ (seqItems? (.ref t)>>=_) _ _ s;refine zQ00 (jL g f ?_);simp only[Int.toNat_natCast,h];refine zQ00 (wpAny_setField b a (by simp) (zQ02 ⟨x,rfl,zQ02 (j _ ?_ (Heap.SameBut.update ..))⟩));refine⟨_,kX _ b (Obj.isFreed_of_fields (Obj.data_mapFields a _)),(Obj.cls_mapFields ..).trans e,?_⟩;rw[Obj.data_mapFields a];simp[rawInt]
theorem u6{it t:Addr}{i:Nat}{f:Array Value}{Q:Value->Shared->Prop}(hb:HB s.heap A)(na:∀a,A.handled=some (.ref a)->a≠it)(d:s.heap.IsListIter it t i)(gt:s.heap.IsList t f)(j:f[i]?=none)(l:∀h' e,Heap.ExtBut it s.heap h'->(∃o,h'.get? e=some o/\o.cls= .type "StopIteration")->E (.ref e) {s with heap:=h'}):wpAny (model prog w) A (Builtin.SmallTypes.nextOf (.ref it)) Q E s:=by obtain⟨p,c,m,b⟩:=id d;obtain⟨q,h,_,n,g⟩:=gt;unfold Builtin.SmallTypes.nextOf;refine zQ00 (wpAny_callSpecial?_slot (name:=Str.ofString "__next__") d.typeIs slot_listiter_next (fF slot_listiter_next d.typeIs entry_listiter_next ?_ (args_listiter_next _)));show wpAny (model prog w) _ (field (.ref it) 0>>=_) _ _ s;refine zQ00 (cQ c b (x:= .ref t) rfl ?_);show wpAny (model prog w) _ (if(Value.ref t==Value.none)=true then _ else _) _ _ s;rw[if_neg (show¬(Value.ref t==Value.none)=true from dR)];show wpAny (model prog w) _ (field (.ref it) 1>>=_) _ _ s;refine zQ00 (cQ c b (x:= .int i 0) rfl ?_);show wpAny (model prog w) _ (seqItems? (.ref t)>>=_) _ _ s;refine zQ00 (jL h g ?_);simp only[Int.toNat_natCast,j];refine zQ00 (wpAny_rule (zQ00 (wpAny_setField c b (by simp) ?_)));exact d_ (A:=A.in1) (hb.upd na) λh' e k he=>l h' e (iB k) he
end
theorem jz{prog:Program}{w:World}{A:Around}(it t:Addr)(ne:t≠it)(na:∀a,A.handled=some (.ref a)->a≠it)(c:Array Value):Draws prog w A it (it::t::jJ A) c.size (λi v=>c[i]?=some v) (λi h=>h.IsListIter it t i/\h.IsList t c/\HB h A)where
 live:=λ_ _ st=>let⟨o,ho,_⟩:=st.1;⟨o,ho⟩;frame:=λi h h' st d=>by obtain⟨⟨o1,f,r1⟩,⟨o2,g,r2⟩,hb⟩:=st;exact⟨⟨o1,d it (by simp) o1 f,r1⟩,⟨o2,d t (by simp) o2 g,r2⟩,hb.frame λb hb=>d b (by simp[hb])⟩
 item:=λi s Q E hi st l=>by refine JC st.1 st.2.1 (x:=c[i]) (by simp[hi]) λh' m e=>?_;exact l _ h' s.toks (by simp[hi]) ⟨m,st.2.1.extBut e.extBut ne,st.2.2.mono λa o j eo=>e.extBut a o (na a j) eo⟩ e
 done:=λs Q E st k=>u6 st.2.2 na st.1 st.2.1 (by simp) k
noncomputable abbrev N5(h:Heap)(a:Addr):Heap:=h.push {cls:= .type "list_iterator",data:= .fields #[.ref a, .int 0 0]}
noncomputable abbrev NW(h:Heap)(a b:Addr):Heap:=(N5 h a).push {cls:= .type "list_iterator",data:= .fields #[.ref b, .int 0 0]}
noncomputable abbrev NX(h:Heap)(a b:Addr):Heap:=(NW h a b).push {cls:= .type "tuple",data:= .seq #[.ref h.objs.size, .ref (N5 h a).objs.size]}
noncomputable abbrev Oj(h:Heap)(a b:Addr):Heap:=(NX h a b).push {cls:= .type "tuple",data:= .seq #[.none, .none]}
noncomputable abbrev JK(h:Heap)(a b:Addr):Heap:=(Oj h a b).push {cls:= .type "zip",data:= .fields #[.none, .bool false, .bool false, .ref (NW h a b).objs.size, .ref (NX h a b).objs.size]}
theorem vk(a b:Addr)(xs e:Array Value):Meets (Builtin.«zip.__new__» ⟨[.type "zip", .ref a, .ref b],[]⟩) (λ_ R s=>s.heap.IsList a xs/\s.heap.IsList b e/\R (.ok (.ret (.ref (Oj s.heap a b).objs.size))) {s with heap:=JK s.heap a b}):= .of_wp λprog w A R s h=>by obtain⟨c,g,d,tk,os⟩:=s;obtain⟨f,i,h⟩:=h;have hsub:=sub_zip;have t1:Heap.IsList (Shared.heap ⟨c,g,d,tk,os⟩) a xs:=f;have t2:Heap.IsList (Shared.heap ⟨c.push {cls:= .type "list_iterator",data:= .fields #[.ref a, .int 0 0]},g,d,tk,os⟩) b e:=Heap.IsList.push i _;wp_walk using wpAny_pyIter_list t1,wpAny_pyIter_list t2;exact⟨_,rfl,h⟩
section
variable{prog:Program}{w:World}{A:Around}{E:Value->Shared->Prop}{s:Shared}
theorem yC{a b:Addr}{xs m:Array Value}{Q:Value->Shared->Prop}(n:s.heap.IsList a xs)(p:s.heap.IsList b m)(h:∀h',IsZip h' (s.heap.objs.size+4) (s.heap.objs.size+2) (s.heap.objs.size+3) .none->IsPair h' (s.heap.objs.size+2) (.ref s.heap.objs.size) (.ref (s.heap.objs.size+1))->IsPair h' (s.heap.objs.size+3) .none .none->h'.IsListIter s.heap.objs.size a 0->h'.IsListIter (s.heap.objs.size+1) b 0->(∀c o,s.heap.get? c=some o->h'.get? c=some o)->Q (.ref (s.heap.objs.size+4)) {s with heap:=h'}):wpAny (model prog w) A (call (.type "zip") [.ref a, .ref b]) Q E s:=by
 refine callType_new F.called_zip (by decide) (F.typeCall_zip_2 _ _) (F.newCall_zip_2 _ _) (λobj=>F.args_object_init_3 obj _ _) F.entry_zip_new (vk a b xs m) ⟨n,p,?_⟩;have d:(N5 s.heap a).objs.size=s.heap.objs.size+1:=zQ21 ..;have e:(NW s.heap a b).objs.size=s.heap.objs.size+2:=by rw[zQ21,d]
 have f:(NX s.heap a b).objs.size=s.heap.objs.size+3:=by rw[zQ21,e]
 have i:(Oj s.heap a b).objs.size=s.heap.objs.size+4:=by rw[zQ21,f]
 have g:(JK s.heap a b).get? (Oj s.heap a b).objs.size=some _:=zQ06 _ rfl;have l:(JK s.heap a b).get? (NX s.heap a b).objs.size=some _:=zQ01 _ (zQ06 _ rfl);have k:(JK s.heap a b).get? (NW s.heap a b).objs.size=some _:=zQ01 _ (zQ01 _ (zQ06 _ rfl));have j:(JK s.heap a b).get? (N5 s.heap a).objs.size=some _:=zQ01 _ (zQ01 _ (zQ01 _ (zQ06 _ rfl)));have r:(JK s.heap a b).get? s.heap.objs.size=some _:=zQ01 _ (zQ01 _ (zQ01 _ (zQ01 _ (zQ06 _ rfl))));show _/\_;rw[e,f,i]at g;rw[d,e]at k;rw[f]at l;rw[d]at j;rw[i];refine⟨⟨_,g,rfl⟩,h _ g k l ⟨_,r,rfl,rfl⟩ ⟨_,j,rfl,rfl⟩ λc o q=>?_⟩;exact zQ01 _ (zQ01 _ (zQ01 _ (zQ01 _ (zQ01 _ q))))
end
end L3
end
section
namespace L3
open PySem PySem.Spec PyProof.Rows L2
theorem o7{X:Cx}{pins:List (Addr×Obj)}{σ:L2.St}{H:Hp}{s:Shared}{a d:Addr}{xs:List V}(I:Inv X pins σ H s)(q:bO X.K H a xs)(f:iX X pins H d):a≠d:=λz=>by
 subst z;rcases q with(q|⟨o,q⟩)|⟨o,_,_,q,_⟩;·rw[f.1]at q;cases q
 ·rw[f.1]at q;cases q
 ·have e:=I.ok.mod.AS a o q;rcases f.2.2.2.1 with z|z;·exact I.ok.mS a o e z
  ·exact absurd (dQ (zQ05 e) I.ok.uF) (Nat.not_lt.mpr z)
noncomputable def Mz(K:PySem.W.Frag)(a b:Addr):It:=⟨λi H=>∃xs c x y,bO K H a xs/\bO K H b c/\xs[i]?=some x/\c[i]?=some y,λi H v H'=>∃p x y,v= .ref p/\H p=none/\H'=upd H p (.tup [x,y])/\∀xs c,bO K H a xs->bO K H b c->xs[i]?=some x/\c[i]?=some y,λi H=>∃xs c,bO K H a xs/\bO K H b c/\xs.length=i⟩
structure MW(a b z TI TO i1 i2:Addr)(i:Nat)(h:Heap):Prop where
 z:IsZip h z TI TO .none
 TI:IsPair h TI (.ref i1) (.ref i2)
 TO:∃u v,IsPair h TO u v
 i1:h.IsListIter i1 a i
 i2:h.IsListIter i2 b i
theorem zd{P:Program}{w:World}{K:PySem.W.Frag}{es:List Expr}{k:Nat}{pos:Pos}(a b n:Nat):Turn P w K (.Tuple es k pos) (Mz K a b) [n+4,n+2,n+3,n,n+1] (n+4) (MW a b (n+4) (n+2) (n+3) n (n+1))where
 mem:=by simp
 obj:=λi h st c hc=>by
  simp only[List.mem_cons,List.not_mem_nil,or_false]at hc;obtain⟨o1,l,_,d1⟩:=st.i1;obtain⟨o2,m,_,d2⟩:=st.i2;obtain⟨u,v,eo⟩:=st.TO;rcases hc with rfl|rfl|rfl|rfl|rfl;·exact⟨_,st.z,λv q=>by cases q⟩
  ·exact⟨_,st.TI,λv q=>by cases q⟩
  ·exact⟨_,eo,λv q=>by cases q⟩
  ·exact⟨o1,l,λv q=>by rw[d1]at q;cases q⟩
  ·exact⟨o2,m,λv q=>by rw[d2]at q;cases q⟩
 keep:=λi h h' st kp=>by obtain⟨o1,l,r1⟩:=st.i1;obtain⟨o2,m,r2⟩:=st.i2;obtain⟨u,v,eo⟩:=st.TO;exact⟨kp _ (by simp) _ st.z,kp _ (by simp) _ st.TI,⟨u,v,kp _ (by simp) _ eo⟩,⟨o1,kp _ (by simp) _ l,r1⟩,⟨o2,kp _ (by simp) _ m,r2⟩⟩
 item:=by
  intro X C hw B hc i pins s σ H E I f st D;subst C hw B;obtain⟨xs,ys,x,y,q1,q2,O,R⟩:=D;obtain⟨r,L,J,_⟩:=I.list q1;obtain⟨F,Sy,p2,_⟩:=I.list q2;obtain⟨u1,M,Px⟩:=L.get O;obtain⟨u2,N,QR⟩:=Sy.get R;obtain⟨u,v,eo⟩:=st.TO;have S:=zQ05 st.z;have l1:i<r.toArray.size:=by rw[cG];exact(List.getElem?_eq_some_iff.mp M).1
  have l2:i<F.toArray.size:=by rw[cG];exact(List.getElem?_eq_some_iff.mp N).1
  have na:∀d∈[n+4,n+2,n+3,n,n+1],a≠d:=λd hd=>o7 I q1 (f d hd);have p:∀d∈[n+4,n+2,n+3,n,n+1],b≠d:=λd hd=>o7 I q2 (f d hd);have j:ju (n+4) (n+2) (n+3) n (n+1) (n::a::jJ X.A.in1) ((n+1)::b::jJ X.A.in1):=by have G:∀d∈[n+4,n+2,n+3,n,n+1],d∉jJ X.A.in1:=λd hd z=>I.FC hc (f d hd).2.2.2.1 (f d hd).2.2.2.2.2 d (l4 z) rfl;have a1:=na (n+4) (by simp);have a2:=na (n+3) (by simp);have a3:=na (n+1) (by simp);have W:=p (n+4) (by simp);have Y:=p (n+3) (by simp);have Z:=p n (by simp);constructor<;>(try simp only[List.mem_cons,not_or])<;>first|lia|exact⟨by lia,by lia,G _ (by simp)⟩
  have t:∀d∈[n+4,n+2,n+3,n,n+1],∀a,X.A.in1.handled=some (.ref a)->a≠d:=λd hd=>I.FC hc (f d hd).2.2.2.1 (f d hd).2.2.2.2.2;refine yE (jz n a (na n (by simp)) (t n (by simp)) r.toArray) (jz (n+1) b (p (n+1) (by simp)) (t (n+1) (by simp)) F.toArray) j st.z st.TI eo ⟨st.i1,J.isList,I.hb hc⟩ ⟨st.i2,p2.isList,I.hb hc⟩ l1 l2 λU V h1 tk l m z1 o1 s1 s2 pr kp=>?_;have l:r.toArray[i]?=some U:=l;have m:F.toArray[i]?=some V:=m;have ex:u1=U:=by rw[List.getElem?_toArray,M]at l;exact Option.some.inj l
  have ey:u2=V:=by rw[List.getElem?_toArray,N]at m;exact Option.some.inj m
  subst ex ey;refine⟨_,rfl,wpAny_letOwnedTupleGo_zip (s:={s with heap:=h1,toks:=tk}) z1 λh2 z2 sb=>?_⟩;have lt:∀d∈[n+4,n+2,n+3,n,n+1],d<s.heap.objs.size:=λd hd=>by
   have :d<=n+4:=by simp at hd;lia
   exact Nat.lt_of_le_of_lt this S
  have up:∀c o,c≠n+4->h1.get? c=some o->h2.get? c=some o:=λc o g e=>(sb.2 c g).trans e;have Ts:h2.get? s.heap.objs.size=some {cls:= .type "tuple",data:= .seq #[u1,u2]}:=up _ _ (Nat.ne_of_gt S) pr;refine⟨.ref s.heap.objs.size,_,yo (s:=s) (h':=h2) (t':=tk) (ch:=[n+4,n+3,n,n+1]) (T:=s.heap.objs.size) (o:= .tup [x,y]) I (λc o g e=>?_) (λd hd=>f d (by simp only[List.mem_cons,List.not_mem_nil,or_false]at hd⊢;rcases hd with z|z|z|z<;>simp[z])) (zQ04 _) ?_,rfl,⟨_,x,y,rfl,I.bc.fresh (zQ04 _),rfl,λWu WA a1 a2=>?_⟩,?_,λd hd=>?_⟩;·simp only[List.mem_cons,List.not_mem_nil,or_false,not_or]at g;exact up c o g.1 (kp c o g.1 g.2.1 g.2.2.1 g.2.2.2 e)
  ·exact⟨(eZ rfl),[u1,u2], .cons Px (.cons QR .nil),⟨_,Ts,rfl,_,rfl⟩⟩
  ·rw[I.md a1 q1,I.md a2 q2];exact⟨O,R⟩
  ·obtain⟨⟨oa,ea,ra⟩,_⟩:=s1;obtain⟨⟨ob,eb,rb⟩,_⟩:=s2;refine⟨z2,up _ _ j.TIz (kp _ _ j.TIz j.TITO j.UN j.VY st.TI),⟨_,_,up _ _ (by lia) o1⟩,⟨oa,up _ _ (by lia) ea,ra⟩,⟨ob,up _ _ (by lia) eb,rb⟩⟩
  ·rw[aI (zQ18 (lt d hd))];exact(f d hd).1
 done:=by
  intro X C hw B hc i pins s σ H E I f st D;subst C hw B;obtain⟨xs,ys,q1,q2,hl⟩:=D;obtain⟨r,L,J,_⟩:=I.list q1;obtain⟨u,v,eo⟩:=st.TO;have na:∀d∈[n+4,n+2,n+3,n,n+1],a≠d:=λd hd=>o7 I q1 (f d hd);have p:∀d∈[n+4,n+2,n+3,n,n+1],b≠d:=λd hd=>o7 I q2 (f d hd);have j:ju (n+4) (n+2) (n+3) n (n+1) (n::a::jJ X.A.in1) ((n+1)::b::jJ X.A.in1):=by have G:∀d∈[n+4,n+2,n+3,n,n+1],d∉jJ X.A.in1:=λd hd z=>I.FC hc (f d hd).2.2.2.1 (f d hd).2.2.2.2.2 d (l4 z) rfl;have a1:=na (n+4) (by simp);have a2:=na (n+3) (by simp);have a3:=na (n+1) (by simp);have W:=p (n+4) (by simp);have Y:=p (n+3) (by simp);have Z:=p n (by simp);constructor<;>(try simp only[List.mem_cons,not_or])<;>first|lia|exact⟨by lia,by lia,G _ (by simp)⟩
  have hi:r.toArray.size=i:=by rw[cG,<-L.length];exact hl
  subst hi;have t:∀d∈[n+4,n+2,n+3,n,n+1],∀a,X.A.in1.handled=some (.ref a)->a≠d:=λd hd=>I.FC hc (f d hd).2.2.2.1 (f d hd).2.2.2.2.2;refine zj (jz n a (na n (by simp)) (t n (by simp)) r.toArray) j st.z st.TI eo ⟨st.i1,J.isList,I.hb hc⟩ λh1 kp=>⟨rfl,?_⟩;refine DZ (t':=s.toks) (ch:=[n+4,n+3,n,n+1]) I (λc o g e=>?_) λd hd=>f d (by simp only[List.mem_cons,List.not_mem_nil,or_false]at hd⊢;rcases hd with z|z|z|z<;>simp[z]);simp only[List.mem_cons,List.not_mem_nil,or_false,not_or]at g;exact kp c o g.1 g.2.1 g.2.2.1 g.2.2.2 e
 self:=λA i s Q E st h=>wpAny_pyIter_zip st.z h
noncomputable def MX(K:PySem.W.Frag)(d:TA):TI:=λσ H R=>d σ H λvs c=>∃a b xs e,vs=[.ref a, .ref b]/\bO K c a xs/\bO K c b e/\R (Mz K a b) c
theorem w8{X:Cx}{es:List Expr}{k:Nat}{C:Pos}{a b:Expr}{j:TA}{p i:Pos}(o:Gl X "zip")(hm:X.mg "zip"=none)(ha:PA X [a,b] j)(r:starEach [a,b] X.env=[(false,eval a X.env),(false,eval b X.env)]:=by rfl)(g:starEach [b] X.env=[(false,eval b X.env)]:=by rfl):PI X (.Tuple es k C) (.Call (.Name "zip" p) [a,b] [] i) (MX X.K j):=by
 intro pins s σ H R I h;refine Call_ (f6 I o hm boot_zip (PyProof.Rows.callWith_type1 (bw (ha i pins s σ H _ I h) λus s1⟨vs,f,c,r1,q1⟩=>?_) (by rw[r,g]) (by rw[g];rfl)));obtain⟨a1,n,xs,J,e,t,u,q⟩:=q1;subst e;obtain⟨u1,u2,rfl,x,y⟩:=Vals.two r1;cases x;cases y;obtain⟨D,F,v,_⟩:=c.list t;obtain⟨E,G,w,_⟩:=c.list u;refine yC v.isList w.isList λh1 l t1 o1 A B kp=>?_;refine wpAny_pyIter_zip (s:={s1 with heap:=h1}) l ?_;have m:Inv X pins σ f {s1 with heap:=h1}:=c.kept (t':=s1.toks) kp;refine⟨_,_,_,_,f,rfl,m,zd a1 n s1.heap.objs.size,⟨l,t1,⟨_,_,o1⟩,A,B⟩,λd hd=>?_,q⟩;have :s1.heap.objs.size<=d:=by simp only[List.mem_cons,List.not_mem_nil,or_false]at hd;rcases hd with z|z|z|z|z<;>rw[z]<;>first|exact Nat.le_add_right _ _|exact zQ04 _
 exact c.Ad this (c.bc.fresh this)
theorem gw:bootBuiltins "tuple"=some (.type "tuple"):=by decide+kernel
theorem Hq:bootBuiltins "int"=some (.type "int"):=by decide+kernel
theorem xa:bootBuiltins "bool"=some (.type "bool"):=by decide+kernel
theorem EK:bootBuiltins "list"=some (.type "list"):=by decide+kernel
theorem II:bootBuiltins "set"=some (.type "set"):=by decide+kernel
theorem gk:bootBuiltins "len"=some (.builtin "len"):=by decide+kernel
theorem cJ:bootBuiltins "isinstance"=some (.builtin "isinstance"):=by decide+kernel
theorem IB:bootBuiltins "max"=some (.builtin "max"):=by decide+kernel
theorem yD:bootBuiltins "sorted"=some (.builtin "sorted"):=by decide+kernel
def Df(K:PySem.W.Frag)(mg:Str->Option Value)(x:Str)(st:Stmt)(ps:List Str):Prop:=∃f fd,yO K x x st f fd/\mg x=some (.ref f)/\Binds K fd ps []
noncomputable def bZ(P:Program)(w:World)(K:PySem.W.Frag)(mg:Str->Option Value)(CX:lC)(x:Str)(k:Nat)(ps:List Str)(sp:Sp):Prop:=∃f fd,(∀base,g8 P w K mg base CX k f fd ps sp)/\mg x=some (.ref f)/\PySem.W.keepIn K (.ref f)=true/\Binds K fd ps []
section
variable{P:Program}{w:World}{K:PySem.W.Frag}{mg:Str->Option Value}
theorem Df.ok{x:Str}{st:Stmt}{N ps:List Str}{k:Nat}{sp:Sp}(D:Df K mg x st ps)(S:aP N ps (ao st))(len:∀vs H Q E,sp vs H Q E->vs.length=ps.length)(a:∀(base:Heap)(f:Addr)(cS:Value)(A:Around)(outer:List Env)(s:Shared)(H:Hp)(vs:List V)(Q:VK)(E:XK),cx k (A.deeper (envOfC x (ao st) s.heap.objs.size f cS))->sp vs H Q E->∃t,fY (dW bW P w K mg base N x (ao st) f cS A outer s H E).Ez (bM st) t/\t {nx:=λ_ H'=>Q .a_ H',rt:=Q} (start N vs) H):bZ P w K mg bW x (k+1) ps sp:=by obtain⟨f,fd,F,m,b⟩:=D;exact⟨f,fd,λbase=>F.ok S len (a base f),m,F.kp,b⟩
theorem bZ.never{x:Str}{st:Stmt}{ps:List Str}{sp:Sp}{k:Nat}{CX:lC}(D:Df K mg x st ps)(no:∀vs H Q E,¬sp vs H Q E):bZ P w K mg CX x k ps sp:=by obtain⟨f,fd,F,m,b⟩:=D;exact⟨f,fd,λbase=>⟨λvs H Q E h=>absurd h (no vs H Q E),λA outer s H args us vs Q E _ _ _ _ h=>absurd h (no vs H Q E)⟩,m,F.kp,b⟩
end
noncomputable def pW(h:Heap)(H:Hp)(fs:List Addr):Heap:=PySem.W.hideAll (pJ h H) fs
theorem gm{h:Heap}{H:Hp}{fs:List Addr}{b:Addr}{o:Obj}(e:h.get? b=some o)(n:H b=none)(a:b∉fs):(pW h H fs).get? b=some o:=PySem.W.hideAll_get _ (iU e n) a
theorem Eu{h:Heap}{H:Hp}{fs:List Addr}{b:Addr}{o:Obj}(e:(pW h H fs).get? b=some o):h.get? b=some o/\H b=none:=wm (PySem.W.of_hideAll fs e)
theorem yA(h:Heap)(H:Hp)(fs:List Addr):(pW h H fs).objs.size=h.objs.size:=(PySem.W.hideAll_size _ _).trans (oG h H)
theorem iT{h B c:Heap}:∀{l:List Env},h.FunFrames B l->(∀L∈gu l,c.get? L=none)->h.FunFrames c l|[],_,_=>trivial|env::l,⟨d,⟨L,o,a,_,ho,hd⟩,hr⟩,hn=>⟨d,⟨L,o,a,hn L (by unfold gu;rw[List.filterMap_cons,a];exact cY),ho,hd⟩,iT hr λb hb=>hn b (by unfold gu at hb⊢;rw[List.filterMap_cons,a];exact c_ _ hb)⟩
theorem Du{X:Cx}{pins:List (Addr×Obj)}{σ:L2.St}{H:Hp}{s:Shared}(I:Inv X pins σ H s)(hc:X.calm=true):sZ X.prog X.w X.K X.mg (pW s.heap H (gu X.stack)) X.A X.stack s H:=by
 have k:∀b o,X.base.get? b=some o->b∉gu X.stack:=λb o e z=>by
  rcases List.mem_cons.mp (I.eH b z)with z|z;·have :=zQ05 e;rw[z]at this;exact absurd this (Nat.not_lt.mpr (cu I.ok.uF I.ok.above))
  ·exact I.ok.JF e z
 have up:∀b o,X.base.get? b=some o->(pW s.heap H (gu X.stack)).get? b=some o:=λb o e=>gm (I.bs b o e).1 (I.bs b o e).2 (k b o e);obtain⟨mb,d,f⟩:=I.ok.mod.blt;refine⟨I.ok.frames,⟨I.ok.mod.AS.keeps up,I.ok.mod.glob.keeps up,⟨mb,d.keeps up,f⟩,I.ok.mod.nolimit.keeps up,I.ok.mod.bm.keeps up⟩,λb o e=>Eu e,Nat.le_of_eq (yA _ _ _),iT I.stack λL j=>PySem.W.hideAll_none _ j,I.pI,I.bc,I.bare,?_⟩;rcases I.ok.hd hc with h|⟨a,oe,vs,g,c,i⟩;·exact .inl h
 ·refine .inr ⟨a,oe,vs,g,?_,i⟩;rcases c with c|c;·exact up a oe c
  ·obtain⟨q1,q2,q3,q4,_⟩:=I.pin (a,oe) (jy _ c);refine gm q1 q2 λz=>?_;rcases List.mem_cons.mp (I.eH a z)with z|z;·exact q3 z
   ·exact q4 z
theorem Dq{X:Cx}{CX:lC}{k:Nat}{f:Addr}{fd:FuncData}{ps:List Str}{sp:Sp}{E:XK}{pins:List (Addr×Obj)}{σ:L2.St}{H:Hp}{s:Shared}{Q:VK}{us:List Value}{vs:List V}{a:Value->Shared->Prop}(F:∀base,g8 X.prog X.w X.K X.mg base CX k f fd ps sp)(hr:cx k X.A)(hb:Binds X.K fd ps [])(I:Inv X pins σ H s)(hc:X.calm=true)(c:∀e s',CX X.A.handled X.stack H s E e s'->a e s')(r:Vals vs us)(h:sp vs H Q E):wpAny (model X.prog X.w) X.A (call (.ref f) us) (EP X pins σ Q) a s:=by
 have hl:us.length=ps.length:=by rw[<-r.length];exact(F (pW s.heap H (gu X.stack))).len _ _ _ _ h
 have b:=hb s us I.jo (by rw[List.append_nil];exact hl);rw[List.append_nil]at b;refine wpAny_call (codeAny_mono ((F _).run X.A X.stack s H ⟨us,[]⟩ us vs Q E hr (Du I hc) b r h) λr s' hq=>?_);cases r with|error e=>exact c e s' hq|ok fl=>cases fl with|ret u=>exact I.after hq|next=>exact False.elim hq|brk=>exact False.elim hq|cont=>exact False.elim hq
theorem aH{X:Cx}{CX:lC}{x:Str}{k:Nat}{ps:List Str}{sp:Sp}{E:XK}{e:Expr}{es:List Expr}{t:TA}{p c:Pos}(F:bZ X.prog X.w X.K X.mg CX x k ps sp)(hr:cx k X.A)(i:Gl X x)(l:Passes CX X E)(ha:PA X (e::es) t)(g:(x==("__debug__":Str))=false:=by decide)(he:starEach (e::es) X.env=(false,eval e X.env)::starEach es X.env:=by rfl)(j:(backTo c (starEach es X.env)).any (·.1)=false:=by rfl)(hc:X.calm=true:=by rfl):PE X (.Call (.Name x p) (e::es) [] c) (Kx sp [] E t):=by obtain⟨f,fd,F,m,kp,b⟩:=F;intro pins s σ H Q I h;refine nK (iK I i m ?_ g);refine PySem.W.callWith_K (h₀:=X.base) I.ok.mod.AS kp (bw (ha c pins s σ H _ I h) λus s1⟨vs,d,a,r,q⟩=>⟨a.jo,?_⟩) he j;have q:sp (vs++[]) d Q E:=q;rw[List.append_nil]at q;exact Dq F hr b a hc (λe s' hc=>l pins σ d s1 e s' a hc) r q
theorem qR{X:Cx}{x:Str}{i:Int}{b:Pos}(hm:∃t,X.mg x=some (.int i t))(a:Gl X x)(hd:(x==("__debug__":Str))=false:=by decide):PE X (.Name x b) (tC (.int i)):=by obtain⟨t,hm⟩:=hm;exact wC a hm ⟨t,rfl⟩ hd
theorem pH{X:Cx}{x:Str}{a:Addr}{c:Pos}(hm:X.mg x=some (.ref a))(b:Gl X x)(hd:(x==("__debug__":Str))=false:=by decide):PE X (.Name x c) (tC (.ref a)):=wC b hm rfl hd
theorem ug{X:Cx}{x:Str}{n:String}{b:Pos}(hm:X.mg x=none)(hv:bootBuiltins x=some (.type n))(a:Gl X x)(hn:x≠"__name__":=by decide)(hd:(x==("__debug__":Str))=false:=by decide):PE X (.Name x b) (tC (.ty n)):=DS a hm hv rfl hn hd
noncomputable def AO(outer:List (Str×NameKind))(N N':List Str)(own:Nat)(fr:List Nat)(scope:Scope):Bool:=scope.names.all (λy=>y.2 != .cell&&(y.2 != .local||scope.names.lookup y.1==some .local)&&(y.2 != .free||outer.lookup y.1==some .cell||outer.lookup y.1==some .free))&&decide (N'.length=own+fr.length)&&(List.range fr.length).all (λj=>match fr[j]? with
 |some i=>match N'[own+j]? with|some x=>N[i]?==some x&&scope.names.lookup x==some .free|none=>false
 |none=>true)
theorem lU{X:Cx}{N N':List Str}{own:Nat}{fr:List Nat}{sc scope:Scope}(f:X.env.scope=sc)(c:X.N=N)(d:scope.kind= .function)(h:AO sc.names N N' own fr scope=true):ja X N' own fr scope:=by
 unfold AO at h;simp only[cw,List.all_eq_true,decide_eq_true_eq]at h;obtain⟨⟨h1,h2⟩,h3⟩:=h;subst c;refine⟨d,λy a=>?_,λy a e=>?_,λy a e=>?_,h2,λj i e=>?_⟩;·simpa using(h1 y a).1.1
 ·have :=(h1 y a).1.2;simpa[e]using this
 ·have :=(h1 y a).2;unfold Env.kindOf;rw[f];simpa[e]using this
 ·have hj:j<fr.length:=(List.getElem?_eq_some_iff.mp e).1;have :=h3 j (by simpa using hj);rw[e]at this;cases b:N'[own+j]? with|none=>simp[b]at this|some x=>simp only[b,cw,beq_iff_eq]at this;exact⟨x,rfl,this.1,this.2⟩
theorem yW(a v:Value):argsOk "max" ⟨[a],[(Str.ofString "default",v)]⟩:=by unfold argsOk;kernel_rfl
section
variable{prog:Program}{w:World}{A:Around}{E:Value->Shared->Prop}{s:Shared}
theorem tN{id:String}{b:Builtin}{args:List Value}{a:List (Str×Value)}{Q:Value->Shared->Prop}(g:builtinKind id=none)(h:plainId id=true)(hb:entryFor table id=some b)(ha:argsOk id ⟨args,a⟩)(hc:wpAny (model prog w) A.in1 (b ⟨args,a⟩) (λfin s'=>match fin with| .done f=>(match(Except.ok f:Result)with| .ok (.ret v)=>Q v s'| .ok _=>False| .error e=>E e s')| .again c=>c.quiet=true/\codeAny (model prog w) A c (λr s'=>match r with| .ok (.ret v)=>Q v s'| .ok _=>False| .error e=>E e s') s') E s):wpAny (model prog w) A (call (.builtin id) args a) Q E s:=by refine wpAny_call (codeAny_call_builtin h hb ?_);simp only[checkBuiltinCall,g];cases i:Manifest.signature? id with|none=>exact zQ02 hc|some d=>simp only[argsOk,i]at ha;have h2:Bind.checkArgs id d ⟨args,a⟩=pure ():=ha;show wpAny _ A.in1 (Bind.checkArgs id d ⟨args,a⟩) _ _ s;rw[h2];exact zQ02 hc
theorem Eb{i j:Int}{t u:Tok}{Q:Value->Shared->Prop}(h:Q (.bool (decide (i>j))) s):wpAny (model prog w) A (richCompare .Gt (.int i t) (.int j u)) Q E s:=richCompare_gives (op:= .Gt) (typeIs_int s _ t) (typeIs_int s _ u) F.slot_int_gt F.entry_int_gt (F.args_int_gt_2 _ _) (gives_int_gt _ _ t u) (λx=>nomatch x) h
end
noncomputable def Jl(m x:Int):Int:=if x>m then x else m
noncomputable def maxD(ns:List Int)(d:Int):Int:=match ns with|[]=>d|a::r=>r.foldl Jl a
def Hx(ns:List Int)(j:Nat)(l:Array Value):Prop:=(j=0/\l=#[])\/(0<j/\∃t,l=#[.int (maxD (ns.take j) 0) t, .int (maxD (ns.take j) 0) t])
theorem zA{l:List Int}(x d:Int)(h:l≠[]):maxD (l++[x]) d=Jl (maxD l d) x:=by cases l with|nil=>exact absurd rfl h|cons a r=>simp[maxD,List.foldl_append]
section
variable{prog:Program}{w:World}{A:Around}{R:Result->Shared->Prop}{I:Addr}{fp wr:List Addr}{P:Nat->Value->Prop}{St:Nat->Heap->Prop}
theorem yq{ns:List Int}{d:Value}(W:Walks prog w A.in1 I fp wr ns.length P St)(O:∀(i:Nat)v,P i v->∃x t,ns[i]?=some x/\v= .int x t)(S:Addr)(hSf:S∉fp):∀(k j:Nat)(s:Shared)(l:Array Value)(c:Nat),ns.length-j=k->j<=ns.length->St j s.heap->Hx ns j l->s.heap.get? S=some {cls:= .type "list",dict:=none,data:= .seq l c,slots:=#[]}->(∀v h' tk,(ns=[]/\v=d\/ns≠[]/\∃t,v= .int (maxD ns 0) t)->(∀b o,b∉wr->b≠S->s.heap.get? b=some o->h'.get? b=some o)->R (.ok (.ret v)) {s with heap:=h',toks:=tk})->codeAny (model prog w) A (.builtin "max.loop" ⟨[.ref I, .none, .ref S],[(Str.ofString "default",d)]⟩) R s:=by
 have K:S∉wr:=λh=>hSf (W.sub _ h);have M:(toString "max"++toString ".loop":String)="max.loop":=by decide
 intro k;induction k with
  |zero=>
   intro j s l c T hj y hb hS m;have p:j=ns.length:=by lia
   refine codeAny_builtin F.entry_max_loop ?_;rw[Around.under_plainId F.plain_max_loop _];show wpAny _ A.in1 (seqItems? (.ref S)>>=_) _ _ s;refine zQ00 (jL hS rfl ?_);rcases hb with⟨G,rfl⟩|⟨G,t,rfl⟩;·show wpAny _ A.in1 (tryCatch (pyNext (.ref I)) _>>=_) _ _ s;refine zQ00 (wpAny_tryCatch (W.done s _ _ (p▸y) λh' tk f=>?_));show wpAny _ A.in1 (rule _>>=_) _ _ _;refine zQ00 (wpAny_rule (zQ02 ?_));have e:ns=[]:=List.eq_nil_of_length_eq_zero (by lia);exact m d _ tk (.inl ⟨e,rfl⟩) λb o a g q=>f b o a q
   ·show wpAny _ A.in1 (tryCatch (pyNext (.ref I)) _>>=_) _ _ s;refine zQ00 (wpAny_tryCatch (W.done s _ _ (p▸y) λh' tk f=>?_));have hS':=f S _ K hS;show wpAny _ A.in1 (updateSeq S (λ_=>#[])>>=_) _ _ _;refine zQ00 ?_;refine wpAny_updateSeq hS' rfl (zQ00 (wpAny_letGo (zQ02 ?_)));have e:ns≠[]:=λz=>by rw[z]at p;simp at p;lia
    refine m _ _ tk (.inr ⟨e,t,by rw[p,List.take_length]⟩) λb o a g q=>(fH _ _ (Ne.symm g)).trans (f b o a q)
  |succ k N=>
   intro j s l c T hj y hb hS m;have hlt:j<ns.length:=by lia
   refine codeAny_builtin F.entry_max_loop ?_;rw[Around.under_plainId F.plain_max_loop _];show wpAny _ A.in1 (seqItems? (.ref S)>>=_) _ _ s;refine zQ00 (jL hS rfl ?_);have Q:∀x,ns[j]?=some x->ns.take (j+1)=ns.take j++[x]:=λx C=>by rw[List.take_add_one,C];rfl
   rcases hb with⟨G,rfl⟩|⟨G,t,rfl⟩
   ·show wpAny _ A.in1 (tryCatch (pyNext (.ref I)) _>>=_) _ _ s;refine zQ00 (wpAny_tryCatch (W.item j s _ _ hlt y λv h' tk J H f=>?_));obtain⟨x,u,C,rfl⟩:=O j v J;have hS':=f S _ K hS;show wpAny _ A.in1 (updateSeq S (λ_=>#[.int x u, .int x u])>>=_) _ _ _;refine zQ00 ?_;refine wpAny_updateSeq hS' rfl ?_;rw[M];refine zQ02 ⟨plainId_quiet F.plain_max_loop _,N (j+1) _ _ _ (by lia) hlt (W.frame _ _ _ H λb L o e=>?_) (.inr ⟨by lia,u,?_⟩) (kX _ hS' rfl) λE n D B r=>?_⟩;·exact(fH _ _ (λh:S=b=>hSf (by rw[h];exact L))).trans e
    ·rw[Q x C,G];rfl
    ·exact m E n D B λb o a g e=>r b o a g ((fH _ _ (Ne.symm g)).trans (f b o a e))
   ·show wpAny _ A.in1 (tryCatch (pyNext (.ref I)) _>>=_) _ _ s;refine zQ00 (wpAny_tryCatch (W.item j s _ _ hlt y λv h' tk J H f=>?_));obtain⟨x,u,C,rfl⟩:=O j v J;have hS':=f S _ K hS;have ne:ns.take j≠[]:=λz=>by
     have :(ns.take j).length=0:=by rw[z];rfl
     rw[List.length_take]at this;lia
    have em:maxD (ns.take (j+1)) 0=Jl (maxD (ns.take j) 0) x:=by rw[Q x C,zA x 0 ne]
    show wpAny _ A.in1 (tryCatch (holding [.int x u, .int x u] (richCompare .Gt (.int x u) (.int (maxD (ns.take j) 0) t)>>=_)) _>>=_) _ _ _;refine zQ00 (wpAny_tryCatch (eh (zQ00 (Eb ?_))));refine zQ00 (eh (wpAny_truthy_bool ?_));refine zQ00 (wpAny_letGo (zQ02 ?_));by_cases hb:x>maxD (ns.take j) 0
    ·rw[decide_eq_true hb];simp only[if_true];refine zQ00 ?_;refine wpAny_updateSeq hS' rfl (zQ00 (wpAny_letGo ?_));rw[M];refine zQ02 ⟨plainId_quiet F.plain_max_loop _,N (j+1) _ _ _ (by lia) hlt (W.frame _ _ _ H λb L o e=>?_) (.inr ⟨by lia,u,?_⟩) (kX _ hS' rfl) λE n D B r=>?_⟩;·exact(fH _ _ (λh:S=b=>hSf (by rw[h];exact L))).trans e
     ·rw[em,Jl,if_pos hb]
     ·exact m E n D B λb o a g e=>r b o a g ((fH _ _ (Ne.symm g)).trans (f b o a e))
    ·rw[decide_eq_false hb];simp only[gK,if_false];refine zQ00 (wpAny_letGo ?_);rw[M];refine zQ02 ⟨plainId_quiet F.plain_max_loop _,N (j+1) _ _ c (by lia) hlt H (.inr ⟨by lia,t,?_⟩) hS' λE n D B r=>?_⟩;·rw[em,Jl,if_neg hb]
     ·exact m E n D B λb o a g e=>r b o a g (f b o a e)
end
theorem ints_get:∀{ns:List Int}{us:List Value},Vals (ns.map V.int) us->∀(i:Nat)(u:Value),us[i]?=some u->∃x t,ns[i]?=some x/\u= .int x t|[],_, .nil,i,u,e=>by simp at e|n::ns,_, .cons r t,0,u,e=>by obtain⟨tk,r⟩:=r;simp at e;exact⟨n,tk,rfl,by rw[<-e,r]⟩|n::ns,_, .cons r t,i+1,u,e=>by simpa using ints_get t i u (by simpa using e)
section
variable{X:Cx}{pins:List (Addr×Obj)}{σ:L2.St}{H:Hp}{s:Shared}
theorem C0{p:Addr}{ns:List Int}{i:Int}{v:Value}{Q:VK}(hc:X.calm=true)(I:Inv X pins σ H s)(hq:bO X.K H p (ns.map V.int))(C:RelV (.int i) v)(q:Q (.int (maxD ns i)) H):wpAny (model X.prog X.w) X.A (call (.builtin "max") [.ref p] [(Str.ofString "default",v)]) (EP X pins σ Q) X.xe s:=by
 obtain⟨m,r,B,D⟩:=I.list hq;have hl:=B.isList;have lt:p<s.heap.objs.size:=by obtain⟨o,e,_⟩:=hl;exact zQ05 e
 have na:∀a,X.A.in1.handled=some (.ref a)->a≠s.heap.objs.size:=λa c=>by
  rcases I.hb hc with z|⟨b,oe,vs,h,k,_⟩;·rw[show X.A.in1.handled=X.A.handled from rfl,z]at c;cases c
  ·rw[show X.A.in1.handled=X.A.handled from rfl,h]at c;cases c;exact zQ18 (zQ05 k)
 have y:(toString "max"++toString ".loop":String)="max.loop":=by decide
 refine tN F.kind_max F.plain_max F.entry_max (yW _ _) ?_;show wpAny _ X.A.in1 (Builtin.Builtins.bindParams "max" ["key","default"] 0 ⟨[],[(Str.ofString "default",v)]⟩>>=_) _ _ s;refine zQ00 (wpAny_of_eq (show Builtin.Builtins.bindParams "max" ["key","default"] 0 ⟨[],[(Str.ofString "default",v)]⟩=pure [none,some v]from rfl) ?_);refine zQ00 (zQ02 ?_);refine zQ00 (wpAny_pyIter_list hl ?_);refine zQ00 (gL ?_);have len:m.toArray.size=ns.length:=by rw[cG,<-r.length,cT]
 have l:=uQ (prog:=X.prog) (w:=X.w) (A:=X.A.in1) s.heap.objs.size p (zQ18 lt) m.toArray na;rw[len]at l;rw[y];have n:((s.heap.push {cls:= .type "list_iterator",data:= .fields #[.ref p, .int 0 0]}).objs.size)∉s.heap.objs.size::p::jJ X.A.in1:=by
  rw[zQ21];intro z;rcases List.mem_cons.mp z with z|z;·exact Nat.succ_ne_self _ z
  ·rcases List.mem_cons.mp z with z|z;·rw[<-z]at lt;exact Nat.not_succ_lt_self lt
   ·have g:=l4 z;rcases I.hb hc with q|⟨b,oe,vs,h,k,_⟩;·rw[show X.A.in1.handled=X.A.handled from rfl,q]at g;cases g
    ·rw[show X.A.in1.handled=X.A.handled from rfl,h]at g;cases g;exact Nat.not_succ_lt_self (zQ05 k)
 refine zQ02 ⟨plainId_quiet F.plain_max_loop _,yq (d:=v) l (λj u e=>ints_get r j u (by simpa using e)) _ n _ 0 _ #[] _ rfl (zQ11 _) ?_ (.inl ⟨rfl,rfl⟩) (zQ06 _ rfl) λu h' tk hv x=>?_⟩;·exact⟨⟨_,zQ01 _ (zQ06 _ rfl),rfl,rfl⟩,(hl.push _).push _,(I.hb hc).mono λa o _ eo=>zQ01 _ (zQ01 _ eo)⟩
 ·refine⟨.int (maxD ns i),H,I.kept (h':=h') (t':=tk) λb o f=>x b o (λhm=>?_) (λhm=>?_) (zQ01 _ (zQ01 _ f)),?_,q⟩;·rw[List.mem_singleton.mp hm]at f;exact Nat.lt_irrefl _ (zQ05 f)
  ·have :=zQ05 f;rw[hm,zQ21]at this;exact Nat.not_succ_lt_self this
  ·rcases hv with⟨rfl,rfl⟩|⟨hne,t,rfl⟩;·exact C
   ·refine⟨t,?_⟩;cases ns with|nil=>exact absurd rfl hne|cons a r=>rfl
end
noncomputable def M0(K:PySem.W.Frag)(t tk:TA):TE:=λσ H Q=>t σ H λvs b=>tk σ b λc a=>∃p ns i,vs=[.ref p]/\c=[.int i]/\bO K a p (ns.map V.int)/\Q (.int (maxD ns i)) a
theorem D8{X:Cx}{e d:Expr}{t tk:TA}{p kp a:Pos}(hm:X.mg "max"=none)(ha:PA X [e] t)(j:PK X [⟨some (Str.ofString "default"),d,kp⟩] tk)(hc:X.calm=true:=by rfl)(g:Gl X "max":=by rfl)(he:starEach [e] X.env=[(false,eval e X.env)]:=by rfl):PE X (.Call (.Name "max" p) [e] [⟨some (Str.ofString "default"),d,kp⟩] a) (M0 X.K t tk):=by intro pins s σ H Q I h;refine nK (f6 I g hm IB ?_);refine callWith_kw (bw (ha a pins s σ H _ I h) λus s1⟨vs,b,c,r1,q1⟩=>bw (j a pins s1 σ b _ c q1) λws s2⟨n,m,f,r2,q2⟩=>?_) (by rw[he];rfl) (by rw[he];rfl);obtain⟨p,ns,i,rfl,rfl,hq,q⟩:=q2;obtain⟨u,rfl,k⟩:=r1.one;cases k;obtain⟨v,rfl,l⟩:=r2.one;exact C0 hc f hq l q
theorem ip{H a:Hp}{p:Addr}{o:HO}(h:aK H a)(c:H p=none):aK H (upd a p o):=λb u q=>by rw[aI (aA q c)];exact h b u q
theorem tD{J:It}{p:Addr}{k:Hp}{g:TG}{z:TT}{w:TE}{b:L2.St}{C:Hp->Prop}(n:Nat)(f:Nat->Option V)(s:k p=none)(hn:n<=sizeLine)(D:∀i a,i<n->aK k a->J.go i a/\∀x h,J.rZ i a x h->∀(R:V->Hp->Prop)(r:Hp->Prop),(∀v j,f i=some v->aK a j->R v j)->(∀d,f i=none->aK a d->r d)->g x b h λo q=>z o q λok d=>if ok=true then w o d R else r d)(hd:∀a,aK k a->a p=some (.lst ((List.range n).filterMap f))->J.stop n a/\C a):∃W:Nat->Nat->List V->Hp->Prop,(∃m,W 0 m [] (upd k p (.lst [])))/\∀i m c a,W i m c a->(J.stop i a/\C a)\/(J.go i a/\∀x h,J.rZ i a x h->g x b h λo q=>z o q λok d=>if ok=true then w o d λv j=>j p=some (.lst c)/\c.length<sizeLine/\∃l,l<m/\W (i+1) l (c++[v]) (upd j p (.lst (c++[v])))else∃l,l<m/\W (i+1) l c d):=by
 refine lE (Q:=λ_ H=>C H) n (λi c a=>c=(List.range i).filterMap f/\a p=some (.lst c)/\aK k a) ⟨rfl,aj,ah s _⟩ ?_ ?_
 ·rintro i c a hi⟨rfl,h2,s2⟩;obtain⟨A,B⟩:=D i a hi s2;have E:((List.range i).filterMap f).length<sizeLine:=by have :=List.length_filterMap_le f (List.range i);rw[mw]at this;lia
  refine⟨A,λx h y=>B x h y _ _ (λv j e u=>⟨u _ _ h2,E,nx hi ⟨?_,aj,ip (s2.trans u) s⟩⟩) λd e t=>nx hi ⟨?_,t _ _ h2,s2.trans t⟩⟩;·rw[List.range_succ,List.filterMap_append];simp[e]
  ·rw[List.range_succ,List.filterMap_append];simp[e]
 ·rintro c a⟨rfl,h2,s2⟩;exact hd a s2 h2
theorem yN{J:It}{p:Addr}{h:Hp}{g:TG}{s:TE}{b:L2.St}{C:Hp->Prop}(n:Nat)(f:Nat->V)(q:h p=none)(hn:n<=sizeLine)(w:∀i a,i<n->aK h a->J.go i a/\∀x d,J.rZ i a x d->∀(R:V->Hp->Prop),(∀e,aK a e->R (f i) e)->g x b d λk l=>s k l R)(hd:∀a,aK h a->a p=some (.lst ((List.range n).map f))->J.stop n a/\C a):∃W:Nat->Nat->List V->Hp->Prop,(∃m,W 0 m [] (upd h p (.lst [])))/\∀i m c a,W i m c a->(J.stop i a/\C a)\/(J.go i a/\∀x d,J.rZ i a x d->g x b d λk l=>vB k l λok o=>if ok=true then s k o λv e=>e p=some (.lst c)/\c.length<sizeLine/\∃j,j<m/\W (i+1) j (c++[v]) (upd e p (.lst (c++[v])))else∃j,j<m/\W (i+1) j c o):=by
 refine lE (Q:=λ_ H=>C H) n (λi c a=>c=(List.range i).map f/\a p=some (.lst c)/\aK h a) ⟨rfl,aj,ah q _⟩ ?_ ?_;·rintro i c a hi⟨rfl,h2,s2⟩;obtain⟨t,u⟩:=w i a hi s2;refine⟨t,λx d y=>?_⟩;simp only[vB,if_true];refine u x d y _ λe r=>⟨r _ _ h2,by rw[cT,mw];lia,nx hi ⟨?_,aj,ip (s2.trans r) q⟩⟩;rw[List.range_succ,List.map_append];rfl
 ·rintro c a⟨rfl,h2,s2⟩;exact hd a s2 h2
noncomputable def Bk(xs a:List V):Bool:=decide (xs.length=a.length)&&(List.range xs.length).all λj=>AF ((xs[j]?).getD .a_) ((a[j]?).getD .a_)
noncomputable def Qv(K:PySem.W.Frag):R2:=λx y H Q=>∃p q xs a,x= .ref p/\y= .ref q/\bO K H p xs/\bO K H q a/\xs.all fC=true/\a.all fC=true/\Q (.bl (Bk xs a)) H
theorem Jq{X:Cx}(J:X.A.units+1<cLine):lj X (compareOp .Eq) (Qv X.K):=by
 intro pins s σ H x y v u Q I F G h;obtain⟨p,q,xs,a,rfl,rfl,w,z,r,t,h⟩:=h;cases F;cases G;obtain⟨b,r1,l,_⟩:=I.list w;obtain⟨f,r2,m,_⟩:=I.list z;have k:=r1.length;have C:=r2.length;by_cases g:xs.length=a.length
 ·refine SeqAt.eq_listAt l.isList m.isList (e:=λj=>AF ((xs[j]?).getD .a_) ((a[j]?).getD .a_)) (by simp;lia) (by lia) (λj h1 h2=>?_) ⟨.bl _,H,I,rfl,?_⟩
  ·have c:j<xs.length:=by simpa[k]using h1
   have d:j<a.length:=by simpa[C]using h2
   obtain⟨u1,n,A⟩:=r1.get (i:=j) (x:=xs[j]) (by simp[c]);obtain⟨u2,o,B⟩:=r2.get (i:=j) (x:=a[j]) (by simp[d]);have D:b.toArray[j]=u1:=by
    have :b[j]?=some b.toArray[j]:=by simp
    rw[n]at this;exact(Option.some.inj this).symm
   have E:f.toArray[j]=u2:=by
    have :f[j]?=some f.toArray[j]:=by simp
    rw[o]at this;exact(Option.some.inj this).symm
   rw[D,E];simp only[zQ03 c,zQ03 d,Option.getD_some];exact CT A B (List.all_eq_true.mp r _ (List.getElem_mem c)) (List.all_eq_true.mp t _ (List.getElem_mem d))
  ·have e:Bk xs a=(List.range b.toArray.size).all λj=>AF ((xs[j]?).getD .a_) ((a[j]?).getD .a_):=by unfold Bk;rw[decide_eq_true g,Bool.true_and,cG,k]
   rw[e]at h;exact h
 ·have e:Bk xs a=false:=by unfold Bk;rw[decide_eq_false g,Bool.false_and]
  rw[e]at h;exact SeqAt.eq_list_lengthsAt l.isList m.isList (by simp;lia) (by lia) ⟨.bl false,H,I,rfl,h⟩
end L3
end
section
namespace HT
open PySem PyProof.Rows
section
open PySem.SeqAt
open PySem.AutoSeq1(wpAny_loadPart')
open PySem.MeetsSeq PySem.MeetsSeq2 PySem.MeetsSeq3
variable{prog:Program}{w:World}{A:Around}{E:Value->Shared->Prop}{s:Shared}
theorem gM{t sl:Addr}{items:Array Value}{b c:Value}{lo hi:Option Int}{Q:Value->Shared->Prop}(ht:IsTup s.heap t items)(a:s.heap.IsSliceOf sl b c .none)(i:IsPart b lo)(j:IsPart c hi)(h1:dP items.size 0 lo=0)(h2:dP items.size items.size hi=items.size)(h:Q (.ref t) s):wpAny (model prog w) A (getItem (.ref t) (.ref sl)) Q E s:=by
 obtain⟨os,f,e,k⟩:=id a;have d:s.TypeIs (.ref sl) "slice":=⟨os,f,e⟩;unfold getItem;try with_reducible refine eh ?_
 first|refine zQ00 (zQ02 ?_)|skip
 refine zQ00 (wpAny_sequenceKey ht.typeIs (by decide) ?_);refine zQ00 (wpAny_callSpecial?_slot (name:=Str.ofString "__getitem__") ht.typeIs PyProof.Rows.slot_tuple_getitem (fF PyProof.Rows.slot_tuple_getitem ht.typeIs entry_tuple_getitem ?_ (args_tuple_getitem _ _)));show wpAny _ _ (Builtin.Tuple.tupleItemsOf (.ref t)>>=_) _ _ s;refine zQ00 (tupleItemsOf_ ht ?_);refine zQ00 (wpAny_typeOf d ?_);rw[if_pos (by decide)];refine zQ00 (eY a i j ?_);have g:(((dP items.size 0 lo:Nat):Int)==0&&(1:Int)==1&&(dP items.size items.size hi-dP items.size 0 lo)==items.size)=true:=by rw[h1,h2];simp
 show wpAny _ _ (if(((dP items.size 0 lo:Nat):Int)==0&&(1:Int)==1&&(dP items.size items.size hi-dP items.size 0 lo)==items.size)=true then _ else _) _ _ s;rw[if_pos g];show wpAny _ _ (Builtin.Tuple.tupleIsExact (.ref t)>>=_) _ _ s;refine zQ00 ?_;unfold Builtin.Tuple.tupleIsExact;refine zQ00 (wpAny_typeOf ht.typeIs (zQ02 ?_));rw[if_pos (by decide)];exact zQ00 (wpAny_rule (zQ02 ⟨_,rfl,zQ02 h⟩))
end
end HT
end
section
namespace L3
open PySem PySem.Spec PyProof.Rows L2
noncomputable def OY(K:PySem.W.Frag):V->Option Int->Option Int->Hp->VK->Prop:=λx lo hi H Q=>∃a xs,x= .ref a/\d8 K H a xs/\(∀p,H p=none->Q (.ref p) (upd H p (.tup (nu xs lo hi))))/\(nu xs lo hi=xs->Q (.ref a) H)
theorem DC{X:Cx}:Py X (OY X.K):=by
 intro pins s σ H x v i j lo hi sl Q I f b d e h;obtain⟨a,xs,rfl,c,q1,q2⟩:=h;by_cases hw:HT.dP xs.length 0 lo=0/\HT.dP xs.length xs.length hi=xs.length
 ·cases f;obtain⟨g,r,ht,k⟩:=I.tuple c;have hlen:g.toArray.size=xs.length:=by rw[cG];exact r.length.symm
  refine⟨"tuple",_,PyProof.Rows.slot_tuple_getitem.lookup,ht.typeIs,?_⟩;refine HT.gM ht b d e (by rw[hlen];exact hw.1) (by rw[hlen];exact hw.2) ⟨.ref a,H,I,rfl,q2 ?_⟩;unfold nu;rw[hw.1,hw.2,List.drop_zero,Nat.sub_zero,List.take_length]
 ·exact Ha pins s σ H _ v i j lo hi sl Q I f b d e ⟨a,xs,rfl,c,hw,q1⟩
theorem yJ(xs:List V)(k:Nat):nu xs (some (k:Int)) none=xs.drop k:=by
 unfold nu;rw[HT.z9,HT.EC];by_cases h:k<=xs.length;·rw[Nat.min_eq_left h];exact List.take_of_length_le (by rw[List.length_drop];lia)
 ·rw[Nat.min_eq_right (by lia),List.drop_eq_nil_of_le (zQ04 _),List.drop_eq_nil_of_le (show xs.length<=k by lia)];simp
section
variable{X:Cx}{K:PySem.W.Frag}
theorem qS(a:X.K=K:=by rfl):kh X (.builtin "isinstance") (λxs H Q=>∃x t n b,xs=[x, .ty n]/\hU K H x t/\PySem.W.kitOne K t (.type n)=some b/\Q (.bl b) H):=by subst a;exact dN
theorem xh(a:X.K=K:=by rfl):N1 X (Kn K):=by subst a;exact da
end
theorem EO{b:Type}{xs:List b}{m:Int}(c:Int)(h:(xs.length:Int)=m)(a:0<m):∃v,rO xs (c%m)=some v/\v∈xs:=by
 have d:0<=c%m:=Int.emod_nonneg _ (by lia);have i1:c%m<m:=Int.emod_lt_of_pos _ a;have hi:(c%m).toNat<xs.length:=by lia
 have e:c%m=(((c%m).toNat:Nat):Int):=by lia
 have h:rO xs (((c%m).toNat:Nat):Int)=some xs[(c%m).toNat]:=bF (zQ03 hi);exact⟨xs[(c%m).toNat],(congrArg (rO xs) e).trans h,List.getElem_mem hi⟩
theorem CN{a:Type}{xs:List a}{m:Int}(c:Int)(h:(xs.length:Int)=m)(b:0<m):∃(j:Nat)(v:a),c%m=(j:Int)/\j<xs.length/\xs[j]?=some v/\rO xs (c%m)=some v:=by
 have d:0<=c%m:=Int.emod_nonneg _ (by lia);have i1:c%m<m:=Int.emod_lt_of_pos _ b;have hi:(c%m).toNat<xs.length:=by lia
 have e:c%m=(((c%m).toNat:Nat):Int):=by lia
 have h:rO xs (((c%m).toNat:Nat):Int)=some xs[(c%m).toNat]:=bF (zQ03 hi);exact⟨(c%m).toNat,xs[(c%m).toNat],e,hi,zQ03 hi,(congrArg (rO xs) e).trans h⟩
noncomputable def o_:List Nat->Nat|[]=>0|a::r=>max a (o_ r)
end L3
end
section
namespace L3
open PySem PySem.Spec L2
variable{K:PySem.W.Frag}
def IY(K:PySem.W.Frag)(a:Addr)(xs:List V):Prop:=∃(o:Obj)(b:Array Value)(n:Nat),K.lookup a=some o/\o.cls= .type "tuple"/\o.data= .seq b n/\b.size<=sizeLine/\Vals xs b.toList
structure KD(K:PySem.W.Frag)(a:Addr)(rows:List (Str×List V))(as:List Addr):Prop where
 len:as.length=rows.length
 tab:mZ K a ((rows.zip as).map λp=>(p.1.1,V.ref p.2))
 sq:∀p∈rows.zip as,IY K p.2 p.1.2
theorem ou{d g:Type}{x:Str}(f:(Str×d)×g->V):∀(rows:List (Str×d))(as:List g),as.length=rows.length->(∃r a,(r,a)∈rows.zip as/\r.1=x/\rows.lookup x=some r.2/\PyProof.Rows.KTD.datumAt x ((rows.zip as).map λp=>(p.1.1,f p))=some (f (r,a)))\/(rows.lookup x=none/\PyProof.Rows.KTD.datumAt x ((rows.zip as).map λp=>(p.1.1,f p))=none)
 |[],_,_=> .inr ⟨rfl,rfl⟩
 |(k,v)::rows,[],h=>by simp at h
 |(k,v)::rows,a::as,h=>by
  have i:=ou (x:=x) f rows as (by simpa using h);by_cases e:x=k;·subst e;exact .inl ⟨(x,v),a,cY,rfl,by simp[List.lookup],by simp[PyProof.Rows.KTD.datumAt]⟩
  ·have c:(x==k)=false:=by simpa using e
   have j:¬k=x:=λz=>e z.symm;rcases i with⟨r,b,h1,h2,h3,h4⟩|⟨h1,h2⟩;·exact .inl ⟨r,b,c_ _ h1,h2,by rw[jc,c];exact h3,by simp only[List.zip_cons_cons,eO,PyProof.Rows.KTD.datumAt,e,decide_false,gK,if_false];exact h4⟩
   ·exact .inr ⟨by rw[jc,c];exact h1,by simp only[List.zip_cons_cons,eO,PyProof.Rows.KTD.datumAt,e,decide_false,gK,if_false];exact h2⟩
theorem KD.some{a:Addr}{rows:List (Str×List V)}{as:List Addr}(T:KD K a rows as){x:Str}{ds:List V}(h:rows.lookup x=Option.some ds):∃b,PyProof.Rows.KTD.datumAt x ((rows.zip as).map λp=>(p.1.1,V.ref p.2))=Option.some (.ref b)/\∀H,d8 K H b ds:=by
 rcases ou (x:=x) (λp=>V.ref p.2) rows as T.len with⟨r,b,h1,h2,h3,h4⟩|⟨h1,_⟩;·rw[h]at h3;cases h3;exact⟨b,h4,λH=> .inr (T.sq _ h1)⟩
 ·rw[h]at h1;cases h1
noncomputable def aJ:List V->List Value->Bool|[],[]=>true| .str x::vs, .str y _::us=>decide (x=y)&&aJ vs us| .int i::vs, .int j _::us=>decide (i=j)&&aJ vs us|_,_=>false
theorem g6:∀{vs:List V}{us:List Value},aJ vs us=true->Vals vs us|[],[],_=> .nil| .str x::vs, .str y t::us,h=>by simp only[aJ,cw,decide_eq_true_eq]at h;obtain⟨rfl,h⟩:=h;exact .cons ⟨t,rfl⟩ (g6 h)| .int x::vs, .int y t::us,h=>by simp only[aJ,cw,decide_eq_true_eq]at h;obtain⟨rfl,h⟩:=h;exact .cons ⟨t,rfl⟩ (g6 h)|[],_::_,h=>by simp[aJ]at h|_::_,[],h=>by simp[aJ]at h| .a_::_,_::_,h=>by simp[aJ]at h| .bl _::_,_::_,h=>by simp[aJ]at h| .zN _::_,_::_,h=>by simp[aJ]at h| .IP _::_,_::_,h=>by simp[aJ]at h| .ref _::_,_::_,h=>by simp[aJ]at h| .ty _::_,_::_,h=>by simp[aJ]at h| .str _::_, .none::_,h=>by simp[aJ]at h| .str _::_, .int _ _::_,h=>by simp[aJ]at h| .str _::_, .ref _::_,h=>by simp[aJ]at h| .str _::_, .bool _::_,h=>by simp[aJ]at h| .str _::_, .float _ _::_,h=>by simp[aJ]at h| .str _::_, .bytes _ _::_,h=>by simp[aJ]at h| .str _::_, .type _::_,h=>by simp[aJ]at h| .str _::_, .builtin _::_,h=>by simp[aJ]at h| .str _::_, .ellipsis::_,h=>by simp[aJ]at h| .str _::_, .notImplemented::_,h=>by simp[aJ]at h| .int _::_, .none::_,h=>by simp[aJ]at h| .int _::_, .str _ _::_,h=>by simp[aJ]at h| .int _::_, .ref _::_,h=>by simp[aJ]at h| .int _::_, .bool _::_,h=>by simp[aJ]at h| .int _::_, .float _ _::_,h=>by simp[aJ]at h| .int _::_, .bytes _ _::_,h=>by simp[aJ]at h| .int _::_, .type _::_,h=>by simp[aJ]at h| .int _::_, .builtin _::_,h=>by simp[aJ]at h| .int _::_, .ellipsis::_,h=>by simp[aJ]at h| .int _::_, .notImplemented::_,h=>by simp[aJ]at h
noncomputable def bQ(vs:List V)(a:Array Value):Bool:=aJ vs a.toList&&decide (a.size<=100)
theorem b_{K:PySem.W.Frag}{a:Addr}{d:Option Addr}{b:Array Value}{n:Nat}{sl:Array (Option Value)}{vs:List V}(h:K.lookup a=some ⟨.type "tuple",d, .seq b n,sl⟩)(c:bQ vs b=true):IY K a vs:=by simp only[bQ,cw,decide_eq_true_eq]at c;exact⟨_,b,n,h,rfl,rfl,cu c.2 (by decide),g6 c.1⟩
noncomputable def fb:List DictEntry->List Str->Bool|[],[]=>true|e::es,k::ks=>(match e.key,e.val with| .str x _, .ref _=>decide (x=k)|_,_=>false)&&fb es ks|_,_=>false
noncomputable def refsOf(es:List DictEntry):List Addr:=es.map λe=>match e.val with| .ref a=>a|_=>0
theorem wX:∀{es:List DictEntry}{ks:List Str},fb es ks=true->PyProof.Rows.KTD.Rows RelV es ((ks.zip (refsOf es)).map λp=>(p.1,V.ref p.2))
 |[],[],_=> .nil
 |[],_::_,h=>by simp[fb]at h
 |_::_,[],h=>by simp[fb]at h
 |e::es,k::ks,h=>by
  obtain⟨c,a,val⟩:=e;rw[fb,cw]at h;cases a with
   |str x t=>
    cases val with
     |ref b=>
      have h1:x=k:=by simpa using h.1
      subst h1;exact .cons rfl rfl (wX h.2)
     |_=>simp at h
   |_=>simp at h
theorem Mx{a:Addr}{es:Array DictEntry}{ep:Nat}{rows:List (Str×List V)}{as:List Addr}(d:(a==sysModules)=false)(b:K.lookup a=some ⟨.type "dict",none, .dict es ep,#[]⟩)(ks:fb es.toList (rows.map (·.1))=true)(c:refsOf es.toList=as)(hl:as.length=rows.length)(sq:∀p∈rows.zip as,IY K p.2 p.1.2):KD K a rows as:=by refine⟨hl,⟨d,_,es,ep,b,⟨rfl,rfl,rfl⟩,rfl,?_⟩,sq⟩;have h:=wX ks;rw[c,List.zip_map_left,List.map_map]at h;exact h
theorem bE{r:Str×List V}{b:Addr}{rows:List (Str×List V)}{as:List Addr}(h:IY K b r.2)(t:∀p∈rows.zip as,IY K p.2 p.1.2):∀p∈(r::rows).zip (b::as),IY K p.2 p.1.2:=λp a=>by
 rcases List.mem_cons.mp a with rfl|a;·exact h
 ·exact t p a
theorem Iy:∀p∈([]:List (Str×List V)).zip ([]:List Addr),IY K p.2 p.1.2:=λp a=>by simp at a
noncomputable def fg:List DictEntry->List (Str×Int)->Bool|[],[]=>true|e::es,(k,i)::ks=>(match e.key,e.val with| .str x _, .int j _=>decide (x=k)&&decide (j=i)|_,_=>false)&&fg es ks|_,_=>false
theorem m4:∀{es:List DictEntry}{ks:List (Str×Int)},fg es ks=true->PyProof.Rows.KTD.Rows RelV es (ks.map λp=>(p.1,V.int p.2))
 |[],[],_=> .nil
 |[],_::_,h=>by simp[fg]at h
 |_::_,[],h=>by simp[fg]at h
 |e::es,(k,i)::ks,h=>by
  obtain⟨c,a,val⟩:=e;rw[fg,cw]at h;cases a with
   |str x t=>
    cases val with
     |int b u=>
      have h1:x=k/\b=i:=by simpa using h.1
      obtain⟨rfl,rfl⟩:=h1;exact .cons rfl ⟨u,rfl⟩ (m4 h.2)
     |_=>simp at h
   |_=>simp at h
theorem Dg{a:Addr}{es:Array DictEntry}{ep:Nat}{rows:List (Str×Int)}(c:(a==sysModules)=false)(b:K.lookup a=some ⟨.type "dict",none, .dict es ep,#[]⟩)(ks:fg es.toList rows=true):mZ K a (rows.map λp=>(p.1,V.int p.2)):=⟨c,_,es,ep,b,⟨rfl,rfl,rfl⟩,rfl,m4 ks⟩
end L3
end
section
namespace L3
open PySem PySem.Spec PyProof.Rows L2
structure MadeX(h h':Heap)(e C:Addr)(hh:Option Value):Prop where
 keeps:∀b o,h.get? b=some o->h'.get? b=some o
 new:h.get? e=none
 there:∃oe vs t c,h'.get? e=some oe/\oe.cls= .ref C/\oe.data= .fields vs/\vs[0]?=some (.ref t)/\vs[1]?=some .none/\vs[2]?=some c/\(hh=none->c= .none)
section
variable{prog:Program}{w:World}{A:Around}{E:Value->Shared->Prop}{s:Shared}
theorem yv{g:Type}{Q:g->Shared->Prop}{h₀:Heap}{e C:Addr}{vs:List Value}(hb:HB h₀ A)(hm:Heap.MadeExcOf h₀ s.heap e (.ref C) vs)(f:∀h',MadeX h₀ h' e C A.handled->E (.ref e) {s with heap:=h'}):wpAny (model prog w) A (raiseNew (.ref e):Sem g) Q E s:=by
 obtain⟨t,he,_,_⟩:=hm.there;simp only[raiseNew];refine zQ00 (wpAny_handled ?_);rcases hb with hb|⟨a,oe,ws,hb,c,h,i⟩;·rw[hb];refine zQ00 (zQ02 (wpAny_throw (f s.heap ⟨hm.keeps,hm.new,_,_,t,_,he,rfl,rfl,rfl,rfl,rfl,λ_=>rfl⟩)))
 ·rw[hb];have ne:a≠e:=λz=>by rw[z,hm.new]at c;cases c
  dsimp only;rw[if_pos (by simpa using ne)];refine zQ00 (eh (tw (hm.keeps _ _ c) h i ?_));refine zQ00 ?_;show wpAny (model prog w) A (setField (.ref e) 2 (.ref a)) _ _ _;refine wpAny_setField he rfl (by simp) (wpAny_throw (f _ ⟨λb o d=>?_,hm.new,_,_,t, .ref a,kX _ he (Obj.isFreed_of_fields (Obj.data_mapFields rfl _)),Obj.cls_mapFields _ _,Obj.data_mapFields rfl _,by simp,by simp,by simp,λz=>by rw[hb]at z;cases z⟩));rw[fH _ _ λz=>by rw[<-z,hm.new]at d;cases d];exact hm.keeps b o d
end
def zk(K:PySem.W.Frag)(C:Addr):Prop:=∃a newId b,ExcBaseFacts "ValueError" newId b a/\PySem.W.excIn K C a newId=true
theorem m5{K:PySem.W.Frag}{h:Heap}{C:Addr}{o:List Value}{newId:String}(X:K.In h)(q:PySem.W.excIn K C o newId=true):∃bm N j k bs u m sub f g i a b c d e t,h.get? C=some (excClassObj j k C N bs bm u m sub f g i a b c d e newId)/\h.Ns N t/\t "__init__"=none/\OwnTail h o bm:=by
 unfold PySem.W.excIn at q;split at q
 ·rename_i i cd sl ho;split at q
  ·rename_i w bm a b c d n e hm s;simp only[cw,beq_iff_eq,Bool.not_eq_true']at q;obtain⟨⟨⟨⟨⟨rfl,rfl⟩,p⟩,ht⟩,bc⟩,r⟩:=q;obtain⟨j,bs,mro,ns,k,hd,m,sub,f,g,x⟩:=cd;dsimp only at hm p bc r;subst hm p;have v:sl=#[a,b,c,d,some (.builtin n),e]:=by obtain⟨l⟩:=sl;simp only at s;rw[s]
   subst v;exact⟨bm,ns,j,k,bs,hd,m,sub,f,g,i,a,b,c,d,e,_,X _ _ ho, .of_isNs (PySem.W.isNs_of_in X bc),PySem.W.nsMap_none_of_in X bc r,PySem.W.tail_of_in X ht⟩
  ·cases q
 ·cases q
noncomputable def Ib(G:Hp->Prop)(t:TA):TS:=λD σ H=>t σ H λvs a=>vs.length<=100/\G a
theorem A0{X:Cx}{G:Hp->Prop}{x:Str}{C:Addr}{a:Expr}{t:TA}{m dj Y:Pos}(A:zk X.K C)(hm:X.mg x=some (.ref C))(ha:PA X [a] t)(L:∀pins σ H s e h',Inv X pins σ H s->MadeX s.heap h' e C X.A.handled->G H->X.xe (.ref e) {s with heap:=h'})(hc:X.calm=true:=by rfl)(J:Gl X x:=by rfl)(E:(x==("__debug__":Str))=false:=by decide)(he:starEach [a] X.env=[(false,eval a X.env)]:=by rfl):PS X (.Raise (some (.Call (.Name x m) [a] [] dj)) none Y) (Ib G t):=by
 intro pins s σ H D I h;obtain⟨Il,newId,vC,FB,q⟩:=A;have S:wpAny (model X.prog X.w) X.A (eval (.Call (.Name x m) [a] [] dj) X.env) (λv s₁=>∃e t h₀ vs,v= .ref e/\X.K.In s₁.heap/\s₁.heap.get? e=some {cls:= .ref C,data:= .fields #[.ref t, .none, .none, .none, .bool false, .none]}/\HB h₀ X.A/\Heap.MadeExcOf h₀ s₁.heap e (.ref C) vs/\∀h',MadeX h₀ h' e C X.A.handled->X.xe (.ref e) {s₁ with heap:=h'}) X.xe s:=by refine nK (iK I J hm ?_ E);have l:=ha dj pins s σ H _ I h;rw[he]at l⊢;unfold callWith;refine zQ00 (eh (Calls.evalArgs_plain (bw l λus s1⟨vs,n,f,r,hl,g⟩=>zQ00 (wpAny_standAt ?_))));obtain⟨bm,N,W,Z,bs,F,sn,sub,o,p,u,M,O,P,Q,R,U,b,i,j,T⟩:=m5 f.jo q;have hb:=f.hb hc;have K:=L pins σ n s1;have AS:=f.jo;obtain⟨k,w,d,tk,os⟩:=s1;show wpAny _ _ (keeperOf (.ref C)>>=_) _ _ _;refine zQ00 (wpAny_keeperOf_exc b ?_);refine zQ00 (wpAny_call_exc_subT (hrest:=by rw[List.nil_append,<-r.length];exact cu hl (by decide)) FB T b i j λh' e c=>zQ00 (eh (wpAny_point (zQ02 ?_))));obtain⟨t,ht,_,_⟩:=c.there;exact⟨e,t,k,_,rfl,AS.keeps c.keeps,ht,hb,c,λy V=>K e y f V g⟩
 rw[arm_exec_Raise];refine zQ00 (wpAny_standAt ?_);unfold raiseStmt;refine zQ00 (zQ00 (bw S λv s₁ h₁=>zQ00 (wpAny_standAt (zQ02 ?_))));obtain⟨e,t,h₀,vs,rfl,AS,he',hb,c,z⟩:=h₁;obtain⟨bm,N,W,Z,bs,F,sn,sub,o,p,u,M,O,P,Q,R,U,b,i,j,T⟩:=m5 AS q;have B:(Value.ref C::bm).contains (.type "BaseException")=true:=by rw[List.contains_cons,T.hasType FB.hasBase,Bool.or_true]
 obtain⟨k,w,d,tk,os⟩:=s₁;repeat(first|with_reducible refine wpAny_loadPart_at he' ?_|with_reducible refine wpAny_loadPart_at b ?_|(with_reducible refine wpAny_isSubtype_exc b ?_;rw[B])|wp_step)
 exact yv hb c z
def Ex(h:Heap)(a C:Addr)(T c:Value):Prop:=∃oe vs a0,h.get? a=some oe/\oe.cls= .ref C/\oe.data= .fields vs/\vs[0]?=some a0/\vs[1]?=some T/\vs[2]?=some c
def Tb(h:Heap)(T:Addr)(fl:Value):Prop:=∃a ts,h.get? T=some a/\a.data= .fields ts/\ts[3]?=some fl
structure zL(fs:List Addr)(xs:List Addr)(h h':Heap):Prop where
 keep:∀b o,h.get? b=some o->b∉fs->b∉xs->h'.get? b=some o
 slot:∀b o,h.get? b=some o->b∈fs->b∉xs->∃sl,h'.get? b=some {o with slots:=sl}
section
variable{M:Model}{A:Around}{E:Value->Shared->Prop}{s:Shared}
theorem AK{base:Heap}{l:List Env}{b:Addr}{o:Obj}{vs:Array Value}(hl:s.heap.FunFrames base l)(e:s.heap.get? b=some o)(d:o.data= .fields vs):b∉gu l:=λhm=>by obtain⟨_,o',ho,a⟩:=hl.mem hm;rw[e]at ho;cases ho;exact a vs d
theorem nS{base:Heap}{env:Env}{outer:List Env}{L a C:Addr}{head T c:Value}{t:Bool}{Q:Unit->Shared->Prop}(v:A.frames=some (env::outer))(hl:s.heap.FunFrames base (env::outer))(u:env.frame=some L)(x:Ex s.heap a C T c)(h:∀h' g,Ex h' a C (.ref g) c->Tb h' g (rawInt L)->s.heap.get? g=none->g≠a->zL (gu (env::outer)) [a] s.heap h'->Q () {s with heap:=h'}):wpAny M A (do let f<-frameOf env;let q<-entryPlaceOf L t;let b<-EntryCells.newEntry head f .none (rawInt L) .none q;setField (.ref a) 1 b) Q E s:=by
 obtain⟨oe,vs,a0,he,hc,hd,r,h1,h2⟩:=x;have hne:a∉gu (env::outer):=AK hl he hd;refine zQ00 (wpAny_frameOf_fun v hl u λd i=>zQ00 (wpAny_entryPlaceOf λq l=>?_));unfold EntryCells.newEntry newFields;refine zQ00 (gL ?_ (l.sizeOk5 _ _ _ _ _));have k:d.get? a=some oe:=(i.2.1 a hne).trans he;have sz:d.objs.size=s.heap.objs.size:=i.1;have p:d.objs.size≠a:=Nat.ne_of_gt (zQ05 k);refine wpAny_setField (zQ01 _ k) hd (Array.getElem?_eq_some_iff.mp h1).1 (h _ d.objs.size ?_ ?_ ?_ p ?_)
 ·refine⟨_,_,a0,kX _ (zQ01 _ k) (Obj.isFreed_of_fields (Obj.data_mapFields hd _)),(Obj.cls_mapFields _ _).trans hc,Obj.data_mapFields hd _,?_,?_,?_⟩;·rw[Array.getElem?_setIfInBounds_ne (by decide)];exact r
  ·have :=(Array.getElem?_eq_some_iff.mp h1).1;simp[this]
  ·rw[Array.getElem?_setIfInBounds_ne (by decide)];exact h2
 ·refine⟨_,_,(fH _ _ (Ne.symm p)).trans (zQ06 _ rfl),rfl,?_⟩;first|(simp;done)|(rcases l with rfl|⟨_,_,_,_,_,_,_,rfl⟩<;>simp)
 ·rw[sz];exact Heap.get?_none_of_le (zQ04 _)
 ·refine⟨λb o e n m=>?_,λb o e n m=>?_⟩;·have j:d.get? b=some o:=(i.2.1 b n).trans e;rw[fH _ _ λz=>m (by simp[z])];exact zQ01 _ j
  ·obtain⟨sl,j⟩:=i.2.2 b o e;refine⟨sl,?_⟩;rw[fH _ _ λz=>m (by simp[z])];exact zQ01 _ j
theorem vj{base:Heap}{env:Env}{outer:List Env}{L a C:Addr}{c:Value}{Q:Unit->Shared->Prop}(e:A.frames=some (env::outer))(hl:s.heap.FunFrames base (env::outer))(d:env.frame=some L)(x:Ex s.heap a C .none c)(h:∀h' b,Ex h' a C (.ref b) c->Tb h' b (rawInt L)->s.heap.get? b=none->b≠a->zL (gu (env::outer)) [a] s.heap h'->Q () {s with heap:=h'}):wpAny M A (noteFrame (.ref a) env) Q E s:=by obtain⟨oe,vs,a0,he,hc,hd,f,h1,h2⟩:=id x;unfold noteFrame;simp only[d];refine zQ00 (cQ he hd h1 ?_);rw[if_neg (by decide)];exact nS e hl d x h
theorem nW{base:Heap}{env:Env}{outer:List Env}{L a C T:Addr}{c:Value}{Q:Unit->Shared->Prop}(r:A.frames=some (env::outer))(hl:s.heap.FunFrames base (env::outer))(j:env.frame=some L)(x:Ex s.heap a C (.ref T) c)(y:Tb s.heap T .none)(p:T≠a)(h:∀h' d,Ex h' a C (.ref d) c->Tb h' d (rawInt L)->s.heap.get? d=none->d≠a->zL (gu (env::outer)) [a,T] s.heap h'->Q () {s with heap:=h'}):wpAny M A (noteFrame (.ref a) env) Q E s:=by
 obtain⟨oe,vs,a0,he,hc,hd,l,h1,h2⟩:=id x;obtain⟨B,ts,hT,dT,h3⟩:=y;unfold noteFrame;simp only[j];refine zQ00 (cQ he hd h1 ?_);rw[if_pos (show(Value.ref T !=Value.none)=true from by simp)];refine zQ00 (cQ hT dT h3 ?_);rw[if_neg (show¬((Value.none==rawInt L)=true)from by simp[rawInt])];refine zQ00 (wpAny_setField hT dT (Array.getElem?_eq_some_iff.mp h3).1 ?_);have f:∀b,b≠T->(s.heap.update T (Obj.mapFields (·.setIfInBounds 3 Value.none))).get? b=s.heap.get? b:=λb hb=>fH _ _ (Ne.symm hb);have t:∀b o,s.heap.get? b=some o->(∀vs,o.data≠ .fields vs)->b≠T:=λb o hb g q=>by rw[q,hT]at hb;cases hb;exact g ts dT
 refine nS (s:={s with heap:=s.heap.update T (Obj.mapFields (·.setIfInBounds 3 Value.none))}) r (hl.of_keeps λb o hb g=>⟨o,(f b (t b o hb g)).trans hb,rfl⟩) j ⟨oe,vs,a0,(f a (Ne.symm p)).trans he,hc,hd,l,h1,h2⟩ λh' d u v i w k=>h h' d u v ?_ w ⟨λb o e n m=>?_,λb o e n m=>?_⟩
 ·by_cases z:d=T;·rw[z]at i;have :=kX (Obj.mapFields (·.setIfInBounds 3 Value.none)) hT (Obj.isFreed_of_fields (Obj.data_mapFields dT _));rw[i]at this;cases this
  ·rw[<-f d z];exact i
 ·exact k.keep b o ((f b λz=>m (by simp[z])).trans e) n λz=>m (by simp at z;simp[z])
 ·exact k.slot b o ((f b λz=>m (by simp[z])).trans e) n λz=>m (by simp at z;simp[z])
theorem eM{a C T:Addr}{c fl:Value}{Q:Unit->Shared->Prop}(x:Ex s.heap a C (.ref T) c)(y:Tb s.heap T fl)(i:T≠a)(h:∀h',Ex h' a C (.ref T) c->Tb h' T .none->(∀b,b≠T->h'.get? b=s.heap.get? b)->Q () {s with heap:=h'}):wpAny M A (setFlight (.ref a) none) Q E s:=by obtain⟨oe,vs,a0,he,hc,hd,g,h1,h2⟩:=x;obtain⟨j,ts,hT,dT,h3⟩:=y;have d:=(Array.getElem?_eq_some_iff.mp h3).1;unfold setFlight;refine zQ00 (cQ he hd h1 ?_);rw[if_pos (show(Value.ref T !=Value.none)=true from by simp)];have e:∀b,b≠T->(s.heap.update T (Obj.mapFields (·.setIfInBounds 3 ((none:Option Addr).elim Value.none λf=>rawInt f)))).get? b=s.heap.get? b:=λb hb=>fH _ _ (Ne.symm hb);exact wpAny_setField hT dT d (h _ ⟨oe,vs,a0,(e a (Ne.symm i)).trans he,hc,hd,g,h1,h2⟩ ⟨_,_,kX _ hT (Obj.isFreed_of_fields (Obj.data_mapFields dT _)),Obj.data_mapFields dT _,by simp[d]⟩ e)
theorem sL{base:Heap}{env:Env}{outer:List Env}{L a C:Addr}{c:Value}{Q:Unit->Shared->Prop}(k:A.frames=some (env::outer))(hl:s.heap.FunFrames base (env::outer))(j:env.frame=some L)(x:Ex s.heap a C .none c)(h:∀h' d,Ex h' a C (.ref d) c->Tb h' d .none->s.heap.get? d=none->d≠a->zL (gu (env::outer)) [a] s.heap h'->Q () {s with heap:=h'}):wpAny M A (leaving env (.ref a)) Q E s:=by unfold leaving;refine zQ00 (vj k hl j x λh1 T1 l r f g i=>eM (s:={s with heap:=h1}) l r g λh2 p t o2=>h h2 T1 p t f g ?_);refine⟨λb o e n m=>(o2 b λz=>by rw[z,f]at e;cases e).trans (i.keep b o e n m),λb o e n m=>?_⟩;obtain⟨sl,q⟩:=i.slot b o e n m;exact⟨sl,(o2 b λz=>by rw[z,f]at e;cases e).trans q⟩
theorem vH{base:Heap}{env:Env}{outer:List Env}{L a C T:Addr}{c:Value}{Q:Unit->Shared->Prop}(l:A.frames=some (env::outer))(hl:s.heap.FunFrames base (env::outer))(k:env.frame=some L)(x:Ex s.heap a C (.ref T) c)(y:Tb s.heap T .none)(j:T≠a)(h:∀h' d,Ex h' a C (.ref d) c->Tb h' d .none->s.heap.get? d=none->d≠a->zL (gu (env::outer)) [a,T] s.heap h'->Q () {s with heap:=h'}):wpAny M A (leaving env (.ref a)) Q E s:=by unfold leaving;refine zQ00 (nW l hl k x y j λh1 T1 p t f g i=>eM (s:={s with heap:=h1}) p t g λh2 r u o2=>h h2 T1 r u f g ?_);refine⟨λb o e n m=>(o2 b λz=>by rw[z,f]at e;cases e).trans (i.keep b o e n m),λb o e n m=>?_⟩;obtain⟨sl,q⟩:=i.slot b o e n m;exact⟨sl,(o2 b λz=>by rw[z,f]at e;cases e).trans q⟩
end
theorem vD{P:Program}{w:World}{H:Hp}{h:Heap}{a:Addr}{o:HO}(x:bC P w H h a o):∃u,h.get? a=some u:=by
 cases o with
  |lst xs=>obtain⟨_,_,_,_,e⟩:=x;exact⟨_,e⟩
  |tup xs=>obtain⟨_,_,_,o,e,_⟩:=x;exact⟨_,e⟩
  |dK aW=>obtain⟨_,_,_,_,o,_,_,e,_⟩:=x;exact⟨_,e⟩
  |dT aW=>obtain⟨_,_,_,_,o,_,_,e,_⟩:=x;exact⟨_,e⟩
  |set S n=>obtain⟨o,_,_,_,e,_⟩:=x;exact⟨_,e⟩
  |ins C dx fs=>obtain⟨_,_,_,e,_⟩:=x;exact⟨_,e⟩
  |own y=>exact x
  |xd fs=>obtain⟨_,⟨_,_,_,e,_⟩,_⟩:=x;exact⟨_,e⟩
  |N4 lo hi=>obtain⟨_,_,_,e⟩:=x;exact⟨_,e⟩
  |uM ob u=>obtain⟨e,_⟩:=x;exact⟨_,e⟩
  |m_ ps=>cases ps with|tab q ln cl=>rcases x with e|⟨c,e,_⟩<;>exact⟨_,e⟩|code q=>obtain⟨c,o,vs,t,b,d,_⟩:=x;cases b;exact⟨_,d⟩
  |met f y=>exact⟨_,show h.get? a=some _ from x⟩
  |ext φ=>obtain⟨_,e,_⟩:=x;exact e
theorem i6{P:Program}{w:World}{H:Hp}{h:Heap}{a:Addr}(x:fL P w H h)(e:h.get? a=none):H a=none:=by cases q:H a with|none=>rfl|some o=>obtain⟨u,z⟩:=vD (x a o q);rw[e]at z;cases z
theorem zL.any{fs xs:List Addr}{h h':Heap}(p:zL fs xs h h'){b:Addr}{o:Obj}(e:h.get? b=some o)(m:b∉xs):∃sl,h'.get? b=some {o with slots:=sl}:=by
 by_cases hb:b∈fs;·exact p.slot b o e hb m
 ·exact⟨o.slots,p.keep b o e hb m⟩
theorem DU{P:Program}{w:World}{H:Hp}{h h':Heap}{fs xs:List Addr}(x:fL P w H h)(p:zL fs xs h h')(c:∀b∈fs,H b=none)(nx:∀b∈xs,H b=none):fL P w H h':=λa o e=>by
 have st:∀b u,H b≠none->h.get? b=some u->h'.get? b=some u:=λb u n q=>p.keep b u q (λz=>n (c b z)) λz=>n (nx b z);refine(x a o e).nF (λb u hb q=>st b u ?_ q) (λ_ q=>q) λ_ _ q=>q;rcases hb with z|z;·rw[z,e];simp
 ·rw[z];simp
structure Dc(X:Cx)(pins:List (Addr×Obj))(H:Hp)(b:Addr):Prop where
 un:H b=none
 new:X.bG.heap.get? b=none
 loc:b≠X.env.locals
 RU:∀x c,X.env.cells.lookup x=some c->c≠b
 pin:∀p∈X.pn++pins,p.1≠b
section
variable{X:Cx}{pins:List (Addr×Obj)}{σ:L2.St}{H H':Hp}{s s':Shared}{h':Heap}{a:Addr}
theorem iw(I:Inv X pins σ H s)(e:s.heap.get? a=none)(d:a∉X.ex)(hn:H' a=none):Dc X pins H' a:=by
 refine⟨hn,?_,λz=>?_,λx c q z=>?_,λp b z=>?_⟩;·cases q:X.bG.heap.get? a with|none=>rfl|some o=>obtain⟨o',z⟩:=I.base.there a o q d;rw[e]at z;cases z
 ·obtain⟨m,⟨o,_,_,ho,_⟩,_⟩:=I.loc;rw[<-z,e]at ho;cases ho
 ·obtain⟨v,o,ho,_⟩:=I.cell x c q;rw[z,e]at ho;cases ho
 ·have :=(I.pin p b).1;rw[z,e]at this;cases this
theorem Inv.Ow{ch:List Addr}(I:Inv X pins σ H s)(p:zL (gu X.stack) ch s.heap h')(hc:∀b∈ch,Dc X pins H b):Inv X pins σ H {s with heap:=h'}:=by
 have j:∀b o,X.bG.heap.get? b=some o->b∉ch:=λb o e z=>by rw[(hc b z).new]at e;cases e
 have A:∀b o,X.bG.heap.get? b=some o->b∉X.fs->b∉gu X.stack:=λb o e hb z=>by
  rcases List.mem_cons.mp (I.eH b z)with q|q;·have :=zQ05 e;rw[q]at this;exact absurd this (Nat.not_lt.mpr I.ok.above)
  ·exact hb q
 have cellK:∀x c,X.env.cells.lookup x=some c->∀v,s.heap.IsCell c v->h'.IsCell c v:=λx c e v⟨o,ho,hd⟩=>by obtain⟨sl,q⟩:=p.any ho λz=>(hc c z).RU x c e rfl;exact⟨_,q,hd⟩
 refine⟨I.ok,I.os,I.bare,⟨λb o e n hb f=>?_,λb o e n hb f=>?_,λb o e n f=>I.base.free b o e n f,λb o e f=>?_,I.base.ny,I.base.mL,I.base.lL⟩,?_,λx c e=>?_,I.free,I.cX,λq hq=>?_,DU I.bc p I.pI λb hb=>(hc b hb).un,I.len⟩;·exact p.keep b o (I.base.keep b o e n hb f) (A b o e hb) (j b o e)
 ·obtain⟨sl,g⟩:=I.base.slot b o e n hb f;obtain⟨B,h⟩:=p.any g (j b o e);exact⟨B,h⟩
 ·obtain⟨o',g⟩:=I.base.there b o e f;obtain⟨sl,h⟩:=p.any g (j b o e);exact⟨_,h⟩
 ·obtain⟨m,⟨o,es,ep,ho,r⟩,hl⟩:=I.loc;obtain⟨sl,y⟩:=p.any ho λz=>(hc _ z).loc rfl;refine⟨m,⟨_,es,ep,y,r⟩,λi x v g h w=>?_⟩;obtain⟨u,r,l⟩:=hl i x v g h w;refine⟨u,r,?_⟩;rcases l with l|⟨k,c,e,z⟩;·exact .inl l
  ·exact .inr ⟨k,c,e,cellK x c e _ z⟩
 ·obtain⟨v,z⟩:=I.cell x c e;exact⟨v,cellK x c e v z⟩
 ·obtain⟨e,n,ne,t,d⟩:=I.pin q hq;exact⟨p.keep q.1 q.2 e (λz=>(List.mem_cons.mp (I.eH q.1 z)).elim ne t) λz=>(hc q.1 z).pin q hq rfl,n,ne,t,d⟩
end
structure D_(X:Cx)(pins:List (Addr×Obj))(H:Hp)(s:Shared)(a C T:Addr)(c fl:Value):Prop where
 ex:Ex s.heap a C (.ref T) c
 tb:Tb s.heap T fl
 ne:T≠a
 fa:Dc X pins H a
 fT:Dc X pins H T
noncomputable def h_(P:Program)(w:World):lC:=λhh outer H s E e s'=>∃(a C T:Addr)(c:Value)(H':Hp),e= .ref a/\s'.os=s.os/\AllBare s'.gens/\Un (gu outer) [] H H' s.heap s'.heap/\fL P w H' s'.heap/\Ex s'.heap a C (.ref T) c/\(hh=none->c= .none)/\Tb s'.heap T .none/\T≠a/\H' a=none/\H' T=none/\s.heap.get? a=none/\s.heap.get? T=none/\E (.ref C) none H'
section
variable{X:Cx}{pins:List (Addr×Obj)}{σ:L2.St}{H:Hp}{s s':Shared}{E:XK}{e:Value}{hh:Option Value}
theorem zZ(I:Inv X pins σ H s)(d:X.ex=[])(h:h_ X.prog X.w hh X.stack H s E e s'):∃a C T c H',e= .ref a/\Inv X pins σ H' s'/\D_ X pins H' s' a C T c .none/\(hh=none->c= .none)/\E (.ref C) none H':=by obtain⟨a,C,T,c,H',rfl,os,bare,un,bc,ex,hc,tb,ne,na,f,fa,fT,q⟩:=h;refine⟨a,C,T,c,H',rfl,I.BB os un bc bare (λb z=>absurd z (by simp)),⟨ex,tb,ne,iw I fa (by rw[d];simp) na,iw I fT (by rw[d];simp) f⟩,hc,q⟩
end
section
variable{P:Program}{w:World}{K:PySem.W.Frag}{mg:Str->Option Value}{base:Heap}{N:List Str}{qual:Str}{sc:Scope}{f:Addr}{cd:Value}{A:Around}{outer:List Env}{bG:Shared}{H₀:Hp}{E:XK}
theorem BR{σ:L2.St}{H:Hp}{s:Shared}{pins:List (Addr×Obj)}{a C T:Addr}{c:Value}{h':Heap}{ch:List Addr}(I:Inv (dW (h_ P w) P w K mg base N qual sc f cd A outer bG H₀ E) pins σ H s)(p:zL (gu (dW (h_ P w) P w K mg base N qual sc f cd A outer bG H₀ E).stack) ch s.heap h')(e:∀b∈ch,Dc (dW (h_ P w) P w K mg base N qual sc f cd A outer bG H₀ E) pins H b)(fa:Dc (dW (h_ P w) P w K mg base N qual sc f cd A outer bG H₀ E) pins H a)(ex:Ex h' a C (.ref T) c)(tb:Tb h' T .none)(d:s.heap.get? T=none)(ne:T≠a)(hc:A.handled=none->c= .none)(q:E (.ref C) none H):h_ P w A.handled outer H₀ bG E (.ref a) {s with heap:=h'}:=by have J:=Inv.Ow I p e;exact⟨a,C,T,c,H,rfl,J.os,J.bare,J.base,J.bc,ex,hc,tb,ne,fa.un,i6 I.bc d,fa.new,(iw (H':=H) I d (by show T∉[];simp) (i6 I.bc d)).new,q⟩
theorem IM{σ:L2.St}{H:Hp}{s:Shared}{pins:List (Addr×Obj)}{a C T:Addr}{c:Value}(I:Inv (dW (h_ P w) P w K mg base N qual sc f cd A outer bG H₀ E) pins σ H s)(F:D_ (dW (h_ P w) P w K mg base N qual sc f cd A outer bG H₀ E) pins H s a C T c .none)(hc:A.handled=none->c= .none)(q:E (.ref C) none H):(dW (h_ P w) P w K mg base N qual sc f cd A outer bG H₀ E).xe (.ref a) s:=by
 refine vH I.ok.frames I.stack rfl F.ex F.tb F.ne λh' i d e g h p=>?_;exact BR (ch:=[a,T]) I p (λb hb=>by
  rcases List.mem_cons.mp hb with z|z;·rw[z];exact F.fa
  ·rw[List.mem_singleton.mp z];exact F.fT) F.fa d e g h hc q
theorem bg{N:List Str}:Passes (h_ P w) (dW (h_ P w) P w K mg base N qual sc f cd A outer bG H₀ E) E:=λpins σ H s e s' I h=>by obtain⟨a,C,T,c,H',rfl,J,F,hc,q⟩:=zZ I rfl h;exact IM J F hc q
theorem DR{σ:L2.St}{H:Hp}{s:Shared}{pins:List (Addr×Obj)}{a C:Addr}{h':Heap}(I:Inv (dW (h_ P w) P w K mg base N qual sc f cd A outer bG H₀ E) pins σ H s)(m:MadeX s.heap h' a C A.handled)(q:E (.ref C) none H):(dW (h_ P w) P w K mg base N qual sc f cd A outer bG H₀ E).xe (.ref a) {s with heap:=h'}:=by have J:Inv (dW (h_ P w) P w K mg base N qual sc f cd A outer bG H₀ E) pins σ H {s with heap:=h'}:=I.kept (t':=s.toks) m.keeps;obtain⟨oe,vs,t,c,d,e,g,h,i,j,k⟩:=m.there;have fa:Dc (dW (h_ P w) P w K mg base N qual sc f cd A outer bG H₀ E) pins H a:=iw I m.new (by show a∉[];simp) (i6 I.bc m.new);refine sL J.ok.frames J.stack rfl ⟨oe,vs, .ref t,d,e,g,h,i,j⟩ λv u l n o r p=>?_;exact BR (ch:=[a]) J p (λb hb=>by rw[List.mem_singleton.mp hb];exact fa) fa l n o r k q
end
theorem Df.KR{P:Program}{w:World}{K:PySem.W.Frag}{mg:Str->Option Value}{x:Str}{st:Stmt}{N ps:List Str}{k:Nat}{sp:Sp}(D:Df K mg x st ps)(S:aP N ps (ao st))(len:∀vs H Q E,sp vs H Q E->vs.length=ps.length)(a:∀(base:Heap)(f:Addr)(cS:Value)(A:Around)(outer:List Env)(s:Shared)(H:Hp)(vs:List V)(Q:VK)(E:XK),cx k (A.deeper (envOfC x (ao st) s.heap.objs.size f cS))->sp vs H Q E->∃t,fY (dW (h_ P w) P w K mg base N x (ao st) f cS A outer s H E) (bM st) t/\t {nx:=λ_ H'=>Q .a_ H',rt:=Q} (start N vs) H):bZ P w K mg (h_ P w) x (k+1) ps sp:=by obtain⟨f,fd,F,m,b⟩:=D;refine⟨f,fd,λbase=>?_,m,F.kp,b⟩;obtain⟨oc,od,kV,doc,pm,an,cS,ct,uJ,rfl,e,c⟩:=F.ex;exact wF e c S len λA outer s H vs Q E hr d=>a base f cS A outer s H vs Q E hr d
noncomputable abbrev uc(X:Cx)(a:Addr)(oe:Obj)(b:Bool):Cx:={X with A:=X.A.mark (some (.ref a)),calm:=b,pn:=(a,oe)::X.pn,xe:=λ_ _=>False}
section
variable{X:Cx}{pins:List (Addr×Obj)}{σ:L2.St}{H:Hp}{s:Shared}{a:Addr}{oe:Obj}{cm:Bool}
theorem MJ(ok:X.Ok)(hc:cm=true->∃vs,oe.data= .fields vs/\vs[2]?=some .none):(uc X a oe cm).Ok:=⟨ok.mod,ok.kind,ok.glob,ok.blt,ok.above,ok.inj,ok.has,ok.C7,λh=>let⟨vs,b,c⟩:=hc h; .inr ⟨a,oe,vs,rfl, .inr cY,b,c⟩,ok.frames,ok.Gm,ok.GF,ok.bs,ok.uF,ok.mS,ok.nI,ok.eS,ok.zT⟩
theorem E5(I:Inv X pins σ H s){vs:Array Value}(e:s.heap.get? a=some oe)(d:oe.data= .fields vs)(F:Dc X pins H a)(hc:cm=true->∃vs,oe.data= .fields vs/\vs[2]?=some .none):Inv (uc X a oe cm) pins σ H s:=by
 refine⟨MJ I.ok hc,I.os,I.bare,I.base,I.loc,I.cell,I.free,I.cX,λp b=>?_,I.bc,I.len⟩;rcases List.mem_cons.mp (show p∈(a,oe)::(X.pn++pins)from b)with z|z;·rw[z];exact⟨e,F.un,F.loc,AK I.eS e d,λv q=>by rw[d]at q;cases q⟩
 ·exact I.pin p z
theorem jF(ok:X.Ok)(I:Inv (uc X a oe cm) pins σ H s):Inv X pins σ H s:=⟨ok,I.os,I.bare,I.base,I.loc,I.cell,I.free,I.cX,λp b=>I.pin p (c_ _ b),I.bc,I.len⟩
theorem NG(ok:X.Ok){D:Ends}{f:Flow}(h:SP (uc X a oe cm) pins D f s):SP X pins D f s:=by cases f with|next=>obtain⟨b,H',I,q⟩:=h;exact⟨b,H',jF ok I,q⟩|brk=>obtain⟨b,H',I,q⟩:=h;exact⟨b,H',jF ok I,q⟩|cont=>obtain⟨b,H',I,q⟩:=h;exact⟨b,H',jF ok I,q⟩|ret u=>obtain⟨v,b,H',I,r,q⟩:=h;exact⟨v,b,H',jF ok I,r,q⟩
end
theorem uv{K:PySem.W.Frag}{prog:Program}{w:World}{A:Around}{E:Value->Shared->Prop}{Q:Bool->Shared->Prop}{s:Shared}{a C c:Addr}{oe:Obj}{b:Bool}(X:K.In s.heap)(he:s.heap.get? a=some oe)(hc:oe.cls= .ref C)(i:zk K c)(e:PySem.W.subIn K (.ref C) (.ref c)=some b)(q:Q b s):wpAny (model prog w) A (excMatches (.ref a) (.ref c)) Q E s:=by
 obtain⟨m,newId,x,FB,k⟩:=i;obtain⟨bm,N,H,I,bs,r,J,sub,l,n,o,y,z,B,D,F,G,h,p,u,T⟩:=m5 X k;have j:(Value.ref c::bm).contains (.type "BaseException")=true:=by rw[List.contains_cons,T.hasType FB.hasBase,Bool.or_true]
 have f:=tc_notTuple;have L:=PySem.W.looks_subIn (M:=model prog w) X e;obtain⟨v,g,d,t,os⟩:=s;unfold excMatches;repeat(first|with_reducible refine zQ00 (L.at ?_)|(with_reducible refine wpAny_loadPart_at he ?_;rw[hc])|with_reducible refine wpAny_loadPart_at h ?_|(with_reducible refine wpAny_isSubtype_exc h ?_;rw[j])|wp_step)
 cases b<;>(wp_walk;exact q)
noncomputable abbrev TH:=Addr->Addr->TS
def PH(X:Cx)(b:List ExceptHandler)(t:TH):Prop:=∀(pins:List (Addr×Obj))(s:Shared)(σ:L2.St)(H:Hp)(D:Ends)(a C T:Addr)(c:Value),Inv X pins σ H s->D_ X pins H s a C T c .none->(X.A.handled=none->c= .none)->t C a D σ H->wpAny (model X.prog X.w) X.A (handleBy (.ref a) X.env b) (SP X pins D) X.xe s
noncomputable def Pz:TH:=λ_ _ _ _ _=>False
theorem HY{X:Cx}:PH X [] Pz:=λ_ _ _ _ _ _ _ _ _ _ _ _ h=>h.elim
def Cm(X:Cx)(a:Bool):Prop:=a=true->X.A.handled=none
section
variable{X:Cx}{cm:Bool}
theorem Hs{pins:List (Addr×Obj)}{s:Shared}{H:Hp}{a C T:Addr}{c fl:Value}(F:D_ X pins H s a C T c fl)(hc:X.A.handled=none->c= .none)(hm:Cm X cm):∃oe vs,s.heap.get? a=some oe/\oe.cls= .ref C/\oe.data= .fields vs/\(cm=true->∃vs,oe.data= .fields vs/\vs[2]?=some .none):=by obtain⟨oe,vs,a0,d,e,b,g,h,f⟩:=F.ex;exact⟨oe,vs,d,e,b,λz=>⟨vs,b,by rw[f,hc (hm z)]⟩⟩
theorem sR{x:Str}{d:Addr}{L M:Pos}{pins:List (Addr×Obj)}{s:Shared}{σ:L2.St}{H:Hp}{a C T:Addr}{c:Value}{b:Bool}{R:Result->Shared->Prop}(D:zk X.K d)(hm:X.mg x=some (.ref d))(G:Gl X x)(E:(x==("__debug__":Str))=false)(I:Inv X pins σ H s)(F:D_ X pins H s a C T c .none)(e:PySem.W.subIn X.K (.ref C) (.ref d)=some b)(h:∀s1,Inv X pins σ H s1->D_ X pins H s1 a C T c .none->R (.ok (if b then .brk else .next)) s1):codeAny (model X.prog X.w) (X.A.mark (some (.ref a))) (.handlers (.ref a) [.ExceptHandler (some (.Name x L)) none [] M] X.env) R s:=by
 obtain⟨oe,vs,a0,o,k,l,t,u,y⟩:=F.ex;obtain⟨g,ts,f1,f2,A⟩:=F.tb;have i:Inv X ((T,g)::pins) σ H s:=I.k6 λp f=>by
  rcases List.mem_cons.mp f with z|z;·rw[z];exact⟨f1,F.fT.un,F.fT.loc,AK I.eS f1 f2,λv q=>by rw[f2]at q;cases q⟩
  ·exact I.pin p (fJ _ z)
 have B:Dc X ((T,g)::pins) H a:=⟨F.fa.un,F.fa.new,F.fa.loc,F.fa.RU,λp f=>by
  rcases List.mem_append.mp f with z|z;·exact F.fa.pin p (jy _ z)
  ·rcases List.mem_cons.mp z with z|z;·rw[z];exact F.ne
   ·exact F.fa.pin p (fJ _ z)⟩;have n:Inv (uc X a oe false) ((T,g)::pins) σ H s:=E5 i o l B (λz=>nomatch z);refine codeAny_handlers_test (d9 (pH (X:=uc X a oe false) (a:=d) hm G E _ _ _ _ (λv H'=>v= .ref d/\H'=H) n ⟨rfl,rfl⟩) (λv s1 hv=>?_) λ_ _ z=>z.elim);obtain⟨w,H',J,r,rfl,rfl⟩:=hv;cases(show v=Value.ref d from r);have m:=(J.pin (a,oe) (by simp)).1;have K:=(J.pin (T,g) (by simp)).1;have j:Inv X pins σ H' s1:=(jF I.ok J).k6 λp f=>i.ok|>λ_=>(jF I.ok J).pin p (fJ _ (c_ _ f));exact uv j.jo m k D e (h s1 j ⟨⟨oe,vs,a0,m,k,l,t,u,y⟩,⟨g,ts,K,f2,A⟩,F.ne,F.fa,F.fT⟩)
theorem BL{pins:List (Addr×Obj)}{s:Shared}{σ:L2.St}{H:Hp}{a C T:Addr}{c fl:Value}{A:Around}{E:Value->Shared->Prop}{Q:Unit->Shared->Prop}(I:Inv X pins σ H s)(F:D_ X pins H s a C T c fl)(hc:X.A.handled=none->c= .none)(hm:Cm X cm)(h:∀s1 oe,Inv (uc X a oe cm) pins σ H s1->oe.cls= .ref C->Q () s1):wpAny (model X.prog X.w) A (setFlight (.ref a) none) Q E s:=by
 refine eM F.ex F.tb F.ne λh' l n d=>?_;have p:zL (gu X.stack) [T] s.heap h':=⟨λb o e _ m=>(d b (by simpa using m)).trans e,λb o e _ m=>⟨o.slots,(d b (by simpa using m)).trans e⟩⟩;have J:=Inv.Ow I p λb hb=>by rw[List.mem_singleton.mp hb];exact F.fT
 have f:D_ X pins H {s with heap:=h'} a C T c .none:=⟨l,n,F.ne,F.fa,F.fT⟩;obtain⟨oe,vs,g,i,j,k⟩:=Hs f hc hm;exact h _ oe (E5 J g j F.fa k) i
noncomputable def Vg(K:PySem.W.Frag)(c:Addr)(ts d:TH):TH:=λC a D σ H=>∃b,PySem.W.subIn K (.ref C) (.ref c)=some b/\if b=true then ts C a D σ H else d C a D σ H
theorem En{x:Str}{d:Addr}{t u:Pos}{j:Stmt}{k:List Stmt}{rest:List ExceptHandler}{ts g:TH}(cm:Bool)(m:zk X.K d)(hm:X.mg x=some (.ref d))(p:Gl X x)(n:Cm X cm)(r:∀(a C:Addr)(oe:Obj),oe.cls= .ref C->fY (uc X a oe cm) (j::k) (ts C a))(hr:PH X rest g)(o:(x==("__debug__":Str))=false:=by decide):PH X (.ExceptHandler (some (.Name x t)) none (j::k) u::rest) (Vg X.K d ts g):=by
 intro pins s σ H D a C T c I F hc h;obtain⟨b,e,h⟩:=h;refine wpAny_handleBy_cons (sR m hm p o I F e λs1 J i=>?_) (by intro q;cases q);cases b with
  |false=>
   have h:g C a D σ H:=by simpa using h
   exact hr pins s1 σ H D a C T c J i hc h
  |true=>
   have h:ts C a D σ H:=by simpa using h
   refine codeAny_handlers_suite (BL J i hc n λs2 oe l eo=>?_);exact d9 (r a C oe eo pins s2 σ H D l h) (λf v q=>NG I.ok q) λ_ _ z=>z.elim
noncomputable def D1(i:Nat)(D:Ends):Ends:={nx:=λσ H=>D.nx (σ.set i none) H,rt:=D.rt,bk:=λσ H=>D.bk (σ.set i none) H,ct:=λσ H=>D.ct (σ.set i none) H}
end
noncomputable abbrev TB:=Ends->(Addr->L2.St->Hp->Prop)->L2.St->Hp->Prop
def BX(X:Cx)(pins:List (Addr×Obj))(G:Addr->L2.St->Hp->Prop)(e:Value)(s':Shared):Prop:=∃(a C T:Addr)(c:Value)(b:L2.St)(H':Hp),e= .ref a/\Inv X pins b H' s'/\D_ X pins H' s' a C T c .none/\(X.A.handled=none->c= .none)/\G C b H'
def PB(X:Cx)(body:List Stmt)(t:TB):Prop:=∀(pins:List (Addr×Obj))(s:Shared)(σ:L2.St)(H:Hp)(D:Ends)(G:Addr->L2.St->Hp->Prop),Inv X pins σ H s->t D G σ H->wpAny (model X.prog X.w) X.A (execs body X.env) (SP X pins D) (BX X pins G) s
noncomputable def Ql(tb:TB)(b:TH):TS:=λD σ H=>tb D (λC c H'=>∀a,H' a=none->b C a D c H') σ H
theorem Hg{X:Cx}{body:List Stmt}{h₀:ExceptHandler}{j:List ExceptHandler}{tb:TB}{n:TH}{y:Pos}(v:X.ex=[])(d:X.stack=X.env::X.outer)(t:X.env.frame=some X.env.locals)(hb:PB X body tb)(hh:PH X (h₀::j) n):PS X (.Try body (h₀::j) [] [] y) (Ql tb n):=by
 intro pins s σ H D I h;refine wpAny_Try_except (d9 (hb pins s σ H D _ I h) (λf s1 q=>?_) λe s1 q=>?_);·cases f with|next=>exact(by first|exact wpAny_execs_nil q|(rw[execs];exact zQ02 q)|exact zQ02 q)|brk=>exact q|cont=>exact q|ret u=>exact q
 ·obtain⟨a,C,T,c,g,H',rfl,J,F,hc,q⟩:=q;refine nW (by rw[J.ok.frames,d]) (d▸J.stack) t F.ex F.tb F.ne λh1 T1 A E l k w=>eM (s:={s1 with heap:=h1}) A E k λh2 B G o2=>?_;have p:Inv X pins g H' {s1 with heap:=h1}:=Inv.Ow J (d▸w) λb hb=>by
   rcases List.mem_cons.mp hb with z|z;·rw[z];exact F.fa
   ·rw[List.mem_singleton.mp z];exact F.fT
  have i:Dc X pins H' T1:=iw J l (by rw[v];simp) (i6 J.bc l);have x:zL (gu X.stack) [T1] h1 h2:=⟨λb o e _ m=>(o2 b (by simpa using m)).trans e,λb o e _ m=>⟨o.slots,(o2 b (by simpa using m)).trans e⟩⟩;have r:Inv X pins g H' {s1 with heap:=h2}:=Inv.Ow (s:={s1 with heap:=h1}) p x λb hb=>by rw[List.mem_singleton.mp hb];exact i
  exact hh pins _ g H' D a C T1 c r ⟨B,G,k,F.fa,i⟩ hc (q a F.fa.un)
structure TX(K:PySem.W.Frag)(C:Addr):Prop where
 ga:PySem.W.findIn K (.ref C) "__getattribute__"=some (some (.builtin "BaseException.__getattribute__"))
 cl:PySem.W.findIn K (.ref C) "__class__"=some (some (.builtin "object.__class__"))
 gt:PySem.W.findIn K (.ref C) "__getattr__"=some none
 ob:PySem.W.mroIn K C (.type "object")=some true
 be:PySem.W.mroIn K C (.type "BaseException")=some true
 is:(PySem.W.clsIn K C).isSome=true
section
variable{prog:Program}{w:World}{A:Around}{E:Value->Shared->Prop}{h:Heap}{g:Array GenState}{d:Drawn}{t:Nat}{os:OsState}{a C:Addr}{o:Obj}{K:PySem.W.Frag}
end
section
variable{X:Cx}{pins:List (Addr×Obj)}{σ:L2.St}{H:Hp}{s:Shared}{a:Addr}{D:List (Str×V)}{k:Str}{tk:Tok}{A:Around}{E:Value->Shared->Prop}
theorem AI{Q:Value->Shared->Prop}(T:mZ X.K a D)(I:Inv X pins σ H s)(h:∀b,RelV ((KTD.datumAt k D).getD .a_) b->Q b {s with toks:=s.toks+1}):wpAny (model X.prog X.w) A (call (.builtin "dict.get") [.ref a, .str k tk]) Q E s:=by
 have ty:=T.typeIs I;refine fF PySem.F.slot_dict_get ty PySem.F.entry_dict_get ?_ (PySem.F.args_dict_get_2 _ _);show wpAny (model X.prog X.w) _ (dictGet a (.str k tk)>>=_) _ _ s;refine zQ00 (wO T I (λv u e r=>?_) λhn=>?_);·have h:=h u (by rw[e];exact r);exact zQ02 ⟨u,rfl,h⟩
 ·have h:=h .none (by rw[hn];exact rfl);refine zQ00 ?_;unfold Builtin.Dict.missed;rw[T.sys];simp only[gK,if_false];exact zQ02 (zQ02 ⟨_,rfl,h⟩)
end
noncomputable def HU(K:PySem.W.Frag)(d ty:TE):TE:=λσ H Q=>d σ H λx b=>∃a D,x= .ref a/\mZ K a D/\ty σ b λy c=>∃k,y= .str k/\Q ((KTD.datumAt k D).getD .a_) c
theorem BJ{X:Cx}{o e:Expr}{apos dj:Pos}{f ty:TE}(ho:PE X o f)(he:PE X e ty)(m:M1 X o "get" apos e dj):PE X (.Call (.Attribute o "get" apos) [e] [] dj) (HU X.K f ty):=by
 intro pins s σ H Q I h;refine wpAny_Call_method m.base m.PF m.line PySem.F.plainAttrs_dict PySem.F.slot_dict_get PySem.F.type_dict_get (bw (ho pins s σ H _ I h) λu s1 p=>?_);obtain⟨x,g,c,l,a,D,ex,T,q1⟩:=p;subst ex;obtain rfl:u=Value.ref a:=l;have t1:=T.typeIs c;refine⟨t1,λb q=>?_,?_⟩;·cases q;obtain⟨o,_,_,e,x,_⟩:=T.ex;exact⟨o,c.jo a o e,x.2.1⟩
 rw[m.trees];refine Calls.callWith_builtin rfl (Calls.evalArgs_plain (Calls.spliced_cons (bw (he pins s1 σ g _ c q1) λv s2⟨y,i,d,n,k,j,q2⟩=>Calls.spliced_nil ?_)));subst j;obtain⟨t,rfl⟩:=n;exact AI T d λw r=>⟨_,i,d.tok _,r,q2⟩
structure Tt(a e it:Addr)(i:Nat)(h:Heap):Prop where
 e:∃old,IsEnum h e it i old
 it:h.IsListIter it a i
theorem r_{CX:lC}{P:Program}{w:World}{K:PySem.W.Frag}{mg:Str->Option Value}{base:Heap}{N:List Str}{qual:Str}{scope:Scope}{f:Addr}{cd:Value}{A:Around}{outer:List Env}{s:Shared}{H:Hp}{E:XK}:(dW CX P w K mg base N qual scope f cd A outer s H E).Ez.K=K:=rfl
end L3
end
section
namespace L3
open PySem L2
theorem vN{t1 t2:TS}{D:Ends}{σ:L2.St}{H:Hp}(h:let a:Ends:=D;let b:TS:=t2;cy t1 b a σ H):(cy t1 (t2)) D σ H:=h
theorem OZ{t1 t2 a:TS}{D:Ends}{σ:L2.St}{H:Hp}(h:let b:Ends:=D;let d:TS:=a;let c:TS:=cy t2 d;cy t1 c b σ H):(cy t1 (cy t2 (a))) D σ H:=h
theorem M3{t1 t2 a t4:TS}{D:Ends}{σ:L2.St}{H:Hp}(h:let b:Ends:=D;let e:TS:=t4;let d:TS:=cy a e;let c:TS:=cy t2 d;cy t1 c b σ H):(cy t1 (cy t2 (cy a (t4)))) D σ H:=h
theorem PN{t1 t2 a t4 b:TS}{D:Ends}{σ:L2.St}{H:Hp}(h:let c:Ends:=D;let g:TS:=b;let f:TS:=cy t4 g;let e:TS:=cy a f;let d:TS:=cy t2 e;cy t1 d c σ H):(cy t1 (cy t2 (cy a (cy t4 (b))))) D σ H:=h
theorem O7{t1 t2 a t4 b c d:TS}{D:Ends}{σ:L2.St}{H:Hp}(h:let e:Ends:=D;let l:TS:=d;let k:TS:=cy c l;let j:TS:=cy b k;let i:TS:=cy t4 j;let g:TS:=cy a i;let f:TS:=cy t2 g;cy t1 f e σ H):(cy t1 (cy t2 (cy a (cy t4 (cy b (cy c (d))))))) D σ H:=h
end L3
end
section
namespace KM
end KM
end
section
namespace L3
open PySem L2
theorem VC{P:List Value->Prop}(h:P []):∀us:List Value,us.length=0->P us:=λus e=>by rw[List.length_eq_zero_iff.mp e];exact h
theorem K6{P:List Value->Prop}{n:Nat}(h:∀a us,us.length=n->P (a::us)):∀us:List Value,us.length=n+1->P us|[],e=>nomatch e|a::us,e=>h a us (Nat.succ.inj e)
theorem lu{P:List Value->Prop}(h:∀a,P [a]):∀us:List Value,us.length=1->P us:=K6 λa=>VC (h a)
theorem EB{P:List Value->Prop}(h:∀a b,P [a,b]):∀us:List Value,us.length=2->P us:=K6 λa=>lu (h a)
theorem J6{P:List Value->Prop}(h:∀a b c,P [a,b,c]):∀us:List Value,us.length=3->P us:=K6 λa=>EB (h a)
theorem by4{P:List Value->Prop}(h:∀a b c d,P [a,b,c,d]):∀us:List Value,us.length=4->P us:=K6 λa=>J6 (h a)
theorem T8{P:List Value->Prop}(h:∀a b c d e,P [a,b,c,d,e]):∀us:List Value,us.length=5->P us:=K6 λa=>by4 (h a)
def dS(K:PySem.W.Frag)(x:Str)(st:Stmt):Prop:=∃(f:Addr)(od an:Option Addr)(sl:Array (Option Value))(oc kV dc pm cd ct:Value),PySem.W.nsIn K mainGlobals x=some (some (.ref f))/\K.lookup f=some ⟨oc,od, .func (PySem.W.fnOf x x (dX st) (bM st) (ao st) .none kV dc pm an cd ct),sl⟩/\PySem.W.codeIn K cd x=true/\PySem.W.keepIn K (.ref f)=true
theorem dfi{K:PySem.W.Frag}{x:Str}{st:Stmt}{f:Addr}{od an:Option Addr}{sl:Array (Option Value)}{oc kV dc pm cd ct:Value}(a:PySem.W.nsIn K mainGlobals x=some (some (.ref f)))(l:K.lookup f=some ⟨oc,od, .func (PySem.W.fnOf x x (dX st) (bM st) (ao st) .none kV dc pm an cd ct),sl⟩)(c:PySem.W.codeIn K cd x=true)(k:PySem.W.keepIn K (.ref f)=true):dS K x st:=⟨f,od,an,sl,oc,kV,dc,pm,cd,ct,a,l,c,k⟩
theorem dS.df{K:PySem.W.Frag}{h:Heap}{mg:Str->Option Value}{x:Str}{st:Stmt}{ps:List Str}(D:dS K x st)(X:K.In h)(G:h.Ns mainGlobals mg)(b:∀(kV doc pm:Value)(an:Option Addr)(cS ct:Value)(us:List Value),us.length=ps.length->bindArgs (PySem.W.fnOf x x (dX st) (bM st) (ao st) .none kV doc pm an cS ct) ⟨us,[]⟩=pure (ps.zip us)):Df K mg x st ps:=by obtain⟨f,od,an,sl,oc,kV,dc,pm,cd,ct,a,l,c,k⟩:=D;exact⟨f,_,CK l c k,PySem.W.mg_of X G a,(CK l c k).binds b⟩
end L3
end
theorem L2.cx.m{j k:Nat}{A:PySem.Around}(r:L2.cx k A)(h:j<=k:=by first|decide|lia):L2.cx j A:=r.mono h
section
namespace K17
open PySem L2 L3 KM
noncomputable def top(i:Nat):Stmt:=PySem.Challenge.pw_keeper_k17_whole_putting_in.main.body.getD i (.Pass ⟨0,0,0,0⟩)
noncomputable abbrev eT:Stmt:=top 10
noncomputable abbrev gA:Stmt:=top 11
noncomputable abbrev eG:Stmt:=top 12
noncomputable abbrev bS:Stmt:=top 13
noncomputable abbrev gC:Stmt:=top 14
noncomputable abbrev gy:Stmt:=top 15
noncomputable abbrev cj:Stmt:=top 17
noncomputable abbrev gB:Stmt:=top 18
noncomputable abbrev cU:Stmt:=top 19
noncomputable abbrev gs:Stmt:=top 20
noncomputable abbrev iW:Stmt:=top 21
noncomputable abbrev gf:Stmt:=top 22
noncomputable abbrev cH:Stmt:=top 24
noncomputable abbrev eD:Stmt:=top 25
noncomputable abbrev dG:Stmt:=top 26
noncomputable abbrev dO:Stmt:=top 27
noncomputable abbrev eF:Stmt:=top 28
noncomputable abbrev dE:Stmt:=top 29
noncomputable abbrev cW:Stmt:=top 32
noncomputable abbrev eL:Stmt:=top 33
noncomputable abbrev fz:Stmt:=top 34
noncomputable abbrev xK:Stmt:=top 35
structure uY where
 none_:Unit:=()
 lK:Addr
 fP:Addr
 dF:Addr
structure Mg(mg:Str->Option Value)(t:uY):Prop where
 CQ:mg "bool"=none
 Lb:mg "int"=none
 de:mg "isinstance"=none
 iz:mg "len"=none
 Jd:mg "list"=none
 M8:mg "max"=none
 lF:mg "range"=none
 KU:mg "set"=none
 Bo:mg "sorted"=none
 i_:mg "tuple"=none
 Gi:mg "zip"=none
 g_MOST_KNOTS:∃tk,mg "MOST_KNOTS"=some (.int 600 tk)
 g_MOST_DEEP:∃tk,mg "MOST_DEEP"=some (.int 40 tk)
 g_MOST_VARIABLE:∃tk,mg "MOST_VARIABLE"=some (.int 99 tk)
 g_KIDS_DUE:mg "KIDS_DUE"=some (.ref t.lK)
 g_BINDER_OVER:mg "BINDER_OVER"=some (.ref t.fP)
 g_Great:mg "Great"=some (.ref t.dF)
seal L2.PE L2.PS L2.fY L2.PT L2.PW L2.PA L2.PG L2.wN L2.PI L2.PC L2.PO L2.vT L2.PK L3.vW
variable{P:Program}{w:World}{K:PySem.W.Frag}{mg:Str->Option Value}{base:Heap}{f:Addr}{fd:FuncData}
noncomputable def f7(ns:List Int)(k:Nat):Int:=(ns[k]?).getD 0
def vz(K:PySem.W.Frag):Sp:=λvs H Q _=>∃(a:Addr)(ns:List Int)(k:Nat),vs=[.ref a, .int k]/\bO K H a (ns.map V.int)/\Q (.int (f7 ns k)) H
theorem HL:aP ["_law_script","_law_k"] ["_law_script","_law_k"] (ao cH):=⟨rfl,rfl,rfl,by decide+kernel,rfl,by decide+kernel,by decide+kernel⟩
theorem Dd(F:yO K "_law_cell_at" "_law_cell_at" cH f fd)(g:mg "len"=none):g8 P w K mg base bW 1 f fd ["_law_script","_law_k"] (vz K):=by
 refine F.ok HL (λvs H Q E h=>?_) (λcS A outer s H vs Q E hr h=>?_);·obtain⟨a,ns,k,rfl,_⟩:=h;rfl
 obtain⟨a,ns,k,rfl,hS,q⟩:=h;refine⟨_,ar (bH (aN B0 (pv 1) (bK bB rfl g PySem.boot_len (aa (pv 0) af)) (aS _)) (aq (aF (bY dy (pv 0) (pv 1) (λ_ _=>rfl)))) aY) (aq (aF ag)),?_⟩;refine⟨_,rfl,_,rfl,a,_,rfl, .inl hS,_,_,rfl,rfl,_,rfl,?_⟩;have hl:(ns.map V.int).length=ns.length:=cT _;refine dg (λc=>?_) (λc=>?_)
 ·have d:(k:Int)<(((ns.map V.int).length:Nat):Int):=of_decide_eq_true c;have b:k<ns.length:=by rw[hl]at d;omega
  have e:f7 ns k=ns[k]:=by unfold f7;simp[b]
  rw[e]at q;exact⟨_,rfl,_,rfl,a,_,_,_,rfl,rfl,hS,bF (by rw[fU,zQ03 b]<;>rfl),q⟩
 ·have d:¬(k:Int)<(((ns.map V.int).length:Nat):Int):=of_decide_eq_false (Bool.eq_false_iff.mpr c);have b:ns.length<=k:=by rw[hl]at d;omega
  have e:f7 ns k=0:=by unfold f7;rw[List.getElem?_eq_none b];rfl
  rw[e]at q;exact q
def pR:Sp:=λvs H Q _=>∃(p:Addr)(a b:Int),vs=[.ref p]/\H p=some (.lst [.int a, .int b])/\0<=a/\a<2147483647/\∀c n:Int,0<=c->c<2147483647->0<=n->Q (.int n) (upd H p (.lst [.int c, .int (b-1)]))
theorem IQ:aP ["_law_state_here"] ["_law_state_here"] (ao eD):=⟨rfl,rfl,rfl,by decide+kernel,rfl,by decide+kernel,by decide+kernel⟩
theorem D7(F:yO K "_law_next" "_law_next" eD f fd):g8 P w K mg base bW 1 f fd ["_law_state_here"] pR:=by
 refine F.ok IQ (λvs H Q E h=>?_) (λcS A outer s H vs Q E hr h=>?_);·obtain⟨p,a,b,rfl,_⟩:=h;rfl
 obtain⟨p,a,b,rfl,d,g,h1,q⟩:=h;refine⟨_,ar (AL (aD bU (aD Ax (bY dy (pv 0) ag (λ_ _=>rfl)) ag) ag) (BA (pv 0) ag set_list)) (ar (AL (aD jB (bY dy (pv 0) ag (λ_ _=>rfl)) ag) (BA (pv 0) ag set_list)) (aq (aF (aD cB (bY dy (pv 0) ag (λ_ _=>rfl)) ag)))),?_⟩;refine⟨_,rfl,p,_,_,_,rfl,rfl,bO.of d,rfl,_,_,rfl,rfl, .inl ⟨by omega,by omega⟩,_,_,rfl,rfl,(by show(0:Int)<2147483647;decide),_,rfl,p,_,_,0,rfl,rfl,d,rfl,?_⟩;have c:(upd H p (.lst ([V.int a, .int b].set 0 (V.int (a*48271%2147483647))))) p=some (.lst [.int (a*48271%2147483647), .int b]):=aj;refine⟨_,rfl,p,_,_,_,rfl,rfl,bO.of c,rfl,_,_,rfl,rfl,_,rfl,p,_,_,1,rfl,rfl,c,rfl,?_⟩;rw[k9];have e:(upd H p (.lst ([V.int (a*48271%2147483647), .int b].set 1 (V.int (b-1))))) p=some (.lst [.int (a*48271%2147483647), .int (b-1)]):=aj;refine⟨_,rfl,p,_,_,_,rfl,rfl,bO.of e,rfl,_,_,rfl,rfl,⟨by decide,by decide⟩,?_⟩;exact q _ _ (Int.emod_nonneg _ (by decide)) (Int.emod_lt_of_pos _ (by decide)) (Int.ediv_nonneg (Int.emod_nonneg _ (by decide)) (by decide))
def oO:Sp:=λvs H Q _=>∃(c m:Int),vs=[.int c, .int m]/\0<=m/\∀(p:Addr)(a b:Int),H p=none->0<=a->a<2147483647->b<=m->Q (.ref p) (upd H p (.lst [.int a, .int b]))
theorem DO:aP ["_law_cell","_law_most"] ["_law_cell","_law_most"] (ao dG):=⟨rfl,rfl,rfl,by decide+kernel,rfl,by decide+kernel,by decide+kernel⟩
theorem AU(F:yO K "_law_state" "_law_state" dG f fd):g8 P w K mg base bW 1 f fd ["_law_cell","_law_most"] oO:=by
 refine F.ok DO (λvs H Q E h=>?_) (λcS A outer s H vs Q E hr h=>?_);·obtain⟨c,m,rfl,_⟩:=h;rfl
 obtain⟨c,m,rfl,hm,q⟩:=h;refine⟨_,aq (aF (cD (aa (aD b9 ag (aD bU (pv 0) ag)) (aa (aD bU (aD cB (pv 0) ag) (aD b9 (pv 1) ag)) af)))),?_⟩;refine⟨_,rfl,_,_,rfl,rfl,(by show(0:Int)<2147483646;decide),_,_,rfl,rfl,_,rfl,_,_,rfl,rfl,⟨by decide,by decide⟩,_,rfl,_,_,rfl,rfl,_,_,rfl,rfl,(by show(0:Int)<m+1;omega),(eZ rfl),λp a=>?_⟩;have h1:=Int.emod_nonneg c (show(2147483646:Int)≠0 by decide);have h2:=Int.emod_lt_of_pos c (show(0:Int)<2147483646 by decide);have h3:=Int.emod_lt_of_pos (c/3) (show(0:Int)<m+1 by omega);exact q p _ _ a (by omega) (by omega) (by omega)
variable{P:Program}{w:World}{K:PySem.W.Frag}{mg:Str->Option Value}{base:Heap}{f:Addr}{fd:FuncData}
noncomputable def nA:List (Key×V):=[(.inr "nat", .str ""),(.inr "none", .str ""),(.inr "zero", .str ""),(.inr "all", .str "kk"),(.inr "some", .str "kk"),(.inr "same", .str "ktt"),(.inr "fun", .str "kt"),(.inr "app", .str "tt")]
noncomputable def nM:List (Key×V):=[(.inr "next", .str "t"),(.inr "rec", .str "kttt"),(.inr "like", .str "kt"),(.inr "carry", .str "ktt"),(.inr "never", .str "kt"),(.inr "pair", .str "ktt"),(.inr "first", .str "t")]
noncomputable def yR:List (Key×V):=[(.inr "second", .str "t"),(.inr "var", .str "n"),(.inr "name", .str "w")]
noncomputable def bh(x:Str):V:=match eR nA (Sum.inr x:Key)with|some v=>v|none=>match eR nM (Sum.inr x:Key)with|some v=>v|none=>(eR yR (Sum.inr x:Key)).getD .a_
def lg:Sp:=λvs H Q _=>∃x:Str,vs=[.str x]/\∀H',aK H H'->Q (bh x) H'
theorem rE:aP ["_law_word","_law_shapes","_law_more"] ["_law_word"] (ao dO):=⟨rfl,rfl,rfl,by decide+kernel,rfl,by decide+kernel,by decide+kernel⟩
theorem Vp:fQ [] nA=nA:=by decide+kernel
theorem US:fQ [] nM=nM:=by decide+kernel
theorem V5:fQ [] yR=yR:=by decide+kernel
theorem Br(F:yO K "_law_shape" "_law_shape" dO f fd):g8 P w K mg base bW 1 f fd ["_law_word"] lg:=by
 refine F.ok rE (λvs H Q E h=>?_) (λcS A outer s H vs Q E hr h=>?_);·obtain⟨x,rfl,_⟩:=h;rfl
 obtain⟨x,rfl,q⟩:=h;have c:=Cb hr;refine⟨_,ar (aM (i:=1) rE.nd rfl (Or.inl rfl) (oQ (ba ai ai (ba ai ai (ba ai ai (ba ai ai (ba ai ai (ba ai ai (ba ai ai (ba ai ai oR)))))))) rfl rfl (by simp) (by decide))) (ar (aM (i:=2) rE.nd rfl (Or.inl rfl) (oQ (ba ai ai (ba ai ai (ba ai ai (ba ai ai (ba ai ai (ba ai ai (ba ai ai oR))))))) rfl rfl (by simp) (by decide))) (ar (bH (Ah (B2 c (pv 0) (pv 1))) (aq (aF (xV c (pv 1) (pv 0) (λ_ _=>rfl)))) aY) (ar (bH (Ah (B2 c (pv 0) (pv 2))) (aq (aF (xV c (pv 2) (pv 0) (λ_ _=>rfl)))) aY) (aq (aF (Cj c (oQ (ba ai ai (ba ai ai (ba ai ai oR))) rfl rfl (by simp) (by decide)) (pv 0) IS ⟨rfl,rfl,rfl,rfl⟩)))))),?_⟩;intro a h1;refine⟨aj,nA,rfl,by decide,?_⟩;rw[Vp,k9];intro b h2;refine⟨aj,nM,rfl,by decide,?_⟩;rw[US,k9];have m:a≠b:=aA aj h2;have l:(upd (upd H a (.dK nA)) b (.dK nM)) b=some (.dK nM):=aj;have j:(upd (upd H a (.dK nA)) b (.dK nM)) a=some (.dK nA):=by rw[aI m];exact aj
 have s2:aK H (upd (upd H a (.dK nA)) b (.dK nM)):=(ah h1 _).trans (ah h2 _);refine⟨_,rfl,_,rfl,a,_,rfl,iV.k (k:=Sum.inr x) j,_,rfl,?_⟩;cases d:eR nA (Sum.inr x:Key)with
  |some v=>
   refine iI ⟨_,rfl,_,rfl,a,v,rfl,d▸iV.k (k:=Sum.inr x) j,?_⟩;have e:bh x=v:=by unfold bh;rw[d]
   rw[<-e];exact q _ s2
  |none=>
   refine dZ ⟨_,rfl,_,rfl,b,_,rfl,iV.k (k:=Sum.inr x) l,_,rfl,?_⟩;cases g:eR nM (Sum.inr x:Key)with
    |some v=>
     refine iI ⟨_,rfl,_,rfl,b,v,rfl,g▸iV.k (k:=Sum.inr x) l,?_⟩;have e:bh x=v:=by unfold bh;rw[d,g]
     rw[<-e];exact q _ s2
    |none=>
     refine dZ ?_;intro n h3;refine⟨aj,yR,rfl,by decide,?_⟩;rw[V5,k9];refine⟨n,rfl, .inl ⟨_, .inl aj⟩,_,rfl,_,iV.k (k:=Sum.inr x) aj,?_⟩;have e:bh x=(eR yR (Sum.inr x:Key)).getD .a_:=by unfold bh;rw[d,g]
     rw[<-e];exact q _ (s2.trans (ah h3 _))
def oW:Sp:=λvs H Q _=>∃n:Int,vs=[.int n]/\0<=n/\∀y:Str,y.length<=100->Q (.str y) H
theorem vL:aP ["_law_number","_law_some","_law_word"] ["_law_number"] (ao eF):=⟨rfl,rfl,rfl,by decide+kernel,rfl,by decide+kernel,by decide+kernel⟩
theorem Ds(F:yO K "_law_name" "_law_name" eF f fd):g8 P w K mg base bW 1 f fd ["_law_number"] oW:=by
 refine F.ok vL (λvs H Q E h=>?_) (λcS A outer s H vs Q E hr h=>?_);·obtain⟨n,rfl,_⟩:=h;rfl
 obtain⟨n,rfl,hn,q⟩:=h;refine⟨_,ar (aM (i:=1) vL.nd rfl (Or.inl rfl) ai) (ar (aM (i:=2) vL.nd rfl (Or.inl rfl) (mn (pv 1) (fk (aD bU (pv 0) ag)) (fk (aD b9 (aD b9 (aD bU (pv 0) ag) ag) (aD bU (aD cB (pv 0) ag) ag))) dA)) (ar (bH (aN ck (aD bU (aD cB (pv 0) ag) ag) ag (aS _)) (aq (aF (mn (aD g_ (mn (pv 2) dA (fk ag) dA) (mn (pv 2) dA dA (fk (Np Je ag)))) dA (fk ag) dA))) aY) (ar (bH (aN ck (aD bU (aD cB (pv 0) ag) ag) ag (aS _)) (aq (aF (mn (aD g_ (aD g_ ai (pv 2)) (pv 2)) dA (fk ag) dA))) aY) (aq (aF (pv 2)))))),?_⟩;refine⟨_,rfl,_,rfl,_,_,rfl,rfl,(by show(0:Int)<26;decide),_,rfl,_,rfl,_,_,rfl,rfl,(by show(0:Int)<26;decide),_,_,rfl,rfl,_,rfl,_,_,rfl,rfl,⟨by decide,by decide⟩,_,_,rfl,rfl,(by show(0:Int)<12;decide),_,_,rfl,rfl,_,rfl,_,rfl,(by decide),(by simp),λy e=>?_⟩;have e:y.length<=38:=e;have big:∀{m:Nat},m<=100->m<=sizeLine:=λh=>cu h (by decide);have c:∀a b:Str,(a++b).length=a.length+b.length:=λa b=>Array.size_append;refine⟨_,rfl,_,_,rfl,rfl,⟨by decide,by decide⟩,_,_,rfl,rfl,(by show(0:Int)<3;decide),rfl,_,rfl,?_⟩;refine dg (λ_=>?_) (λ_=>?_);·refine⟨_,rfl,_,rfl,y,rfl,big (by omega),(by simp),λg h1=>⟨_,rfl,_,rfl,_,rfl,y,rfl,big (by omega),(by simp),λj h2=>⟨_,_,rfl,rfl,big (by omega),_,rfl,_,rfl,big (by rw[c];omega),(by simp),λd h3=>?_⟩⟩⟩;rw[c]at h3;exact q d (by omega)
 ·refine⟨_,rfl,_,_,rfl,rfl,⟨by decide,by decide⟩,_,_,rfl,rfl,(by show(0:Int)<3;decide),rfl,_,rfl,?_⟩;refine dg (λ_=>?_) (λ_=>?_);·refine⟨_,rfl,_,_,rfl,rfl,big (by show 1+y.length<=100;omega),_,rfl,_,_,rfl,rfl,big (by rw[c];show 1+y.length+y.length<=100;omega),_,rfl,_,rfl,big (by rw[c,c];show 1+y.length+y.length<=100;omega),(by simp),λd h3=>?_⟩;rw[c,c]at h3;have h3:d.length<=1+y.length+y.length:=h3;exact q d (by omega)
  ·exact⟨_,rfl,q y (by omega)⟩
noncomputable def eW(w:Str):Bool:=JM (.str w) [.str "nat", .str "none", .str "all", .str "some", .str "same"]
noncomputable def fI:D->Bool| .int i=>decide (0<=i)|_=>false
mutual noncomputable def bf(nm:D->Bool)(k:Bool):D->Bool
 | .tup (.str w::ps)=>match bh w with| .str s=>(eW w==k)&&eB nm s.cps.toList ps|_=>false
 |_=>false noncomputable def eB(nm:D->Bool):List Nat->List D->Bool|[],[]=>true|c::cs,p::ps=>(if c=107 then bf nm true p else if c=116 then bf nm false p else if c=110 then fI p else nm p)&&eB nm cs ps|_,_=>false end
noncomputable def cE(a:D->Bool)(c:Nat)(p:D):Bool:=if c=107 then bf a true p else if c=116 then bf a false p else if c=110 then fI p else a p
theorem aw(a:D->Bool)(c:Nat)(cs:List Nat)(p:D)(ps:List D):eB a (c::cs) (p::ps)=(cE a c p&&eB a cs ps):=by rw[eB];rfl
theorem uA{d:D->Bool}:∀{cs:List Nat}{ps:List D}{c:Nat}{p:D},eB d cs ps=true->cE d c p=true->eB d (cs++[c]) (ps++[p])=true|[],[],c,p,_,h=>by show eB d (c::[]) (p::[])=true;rw[aw,h];simp[eB]|[],_::_,_,_,h,_=>by simp[eB]at h|_::_,[],_,_,h,_=>by simp[eB]at h|a::cs,b::ps,c,p,h,h2=>by rw[aw,cw]at h;show eB d (a::(cs++[c])) (b::(ps++[p]))=true;rw[aw,h.1,uA h.2 h2];rfl
theorem cF{a:D->Bool}{k:Bool}{w s:Str}{ps:List D}(h1:bh w= .str s)(h2:eW w=k)(h3:eB a s.cps.toList ps=true):bf a k (.tup (.str w::ps))=true:=by rw[bf,h1];simp[h2,h3]
noncomputable def goodW(k:Bool)(w:Str):Bool:=(eW w==k)&&match bh w with| .str s=>s.cps.toList.all (λc=>c==107||c==116)&&decide (s.cps.size<=4)|_=>false
noncomputable def pF:List Str:=["nat","all","same","some","nat","all","none","same"]
noncomputable def rQ:List Str:=["var","app","fun","next","var","rec","zero","app","like","carry","never","pair","first","second","name","var"]
theorem Ik:pF.all (λw=>w !="var"&&w !="name"&&goodW true w)=true:=by decide+kernel
theorem GV:rQ.all (λw=>w=="var"||w=="name"||goodW false w)=true:=by decide+kernel
theorem Bx:bh "nat"= .str "":=by decide+kernel
theorem yw:bh "none"= .str "":=by decide+kernel
theorem yS:bh "zero"= .str "":=by decide+kernel
theorem CW:eW "nat"=true:=by decide+kernel
theorem zt:eW "none"=true:=by decide+kernel
theorem yp:eW "zero"=false:=by decide+kernel
theorem cV:bh "var"= .str "n":=by decide+kernel
theorem ff:bh "name"= .str "w":=by decide+kernel
theorem mH:eW "var"=false:=by decide+kernel
theorem zH:eW "name"=false:=by decide+kernel
def Wd(k lf:Bool)(w:Str):Prop:=(w="var"/\k=false)\/(w="name"/\k=false/\lf=false)\/(w≠"var"/\w≠"name"/\w.length<=12/\eW w=k/\∃s,bh w= .str s/\(∀c∈s.cps.toList,c=107\/c=116)/\s.cps.size<=4/\(lf=true->s=""))
theorem Fc{k:Bool}{w:Str}(h1:w≠"var")(h2:w≠"name")(hl:w.length<=12)(g:goodW k w=true):Wd k false w:=by unfold goodW at g;rw[cw]at g;obtain⟨b,a⟩:=g;refine .inr (.inr ⟨h1,h2,hl,by simpa using b,?_⟩);cases e:bh w with|str s=>rw[e]at a;simp only[cw,List.all_eq_true,Bool.or_eq_true,beq_iff_eq,decide_eq_true_eq]at a;exact⟨s,rfl,a.1,a.2,λz=>by cases z⟩|_=>rw[e]at a;simp at a
theorem O2:∀w∈pF,Wd true false w:=λw hw=>by
 have g:=List.all_eq_true.mp Ik w hw;simp only[cw,bne_iff_ne,ne_eq]at g;have hl:pF.all (λw=>decide (w.length<=12))=true:=by decide+kernel
 exact Fc g.1.1 g.1.2 (by simpa using List.all_eq_true.mp hl w hw) g.2
theorem Q0:∀w∈rQ,Wd false false w:=λw hw=>by
 have g:=List.all_eq_true.mp GV w hw;have hl:rQ.all (λw=>decide (w.length<=12))=true:=by decide+kernel
 by_cases h1:w="var";·exact .inl ⟨h1,rfl⟩
 ·by_cases h2:w="name";·exact .inr (.inl ⟨h2,rfl,rfl⟩)
  ·refine Fc h1 h2 (by simpa using List.all_eq_true.mp hl w hw) ?_;simpa[h1,h2]using g
theorem qw{k:Bool}{w:Str}(h1:w≠"var")(h2:w≠"name")(hl:w.length<=12)(a:eW w=k)(b:bh w= .str ""):Wd k true w:= .inr (.inr ⟨h1,h2,hl,a,Str.ofString "",b,(λc hc=>by have hc:c∈([]:List Nat):=hc;cases hc),(by decide),λ_=>rfl⟩)
theorem mq:(Str.ofString "n").cps.toList=[110]:=by decide+kernel
theorem BS:(Str.ofString "w").cps.toList=[119]:=by decide+kernel
theorem qh{b:D->Bool}{z:Int}(a:0<=z)(h1:z<=99):bf b false (.tup [.str "var", .int z])=true:=by refine cF cV mH ?_;rw[mq,aw];simp[cE,fI,a,h1,eB]
theorem DV{a:D->Bool}{y:Str}(h:a (.str y)=true):bf a false (.tup [.str "name", .str y])=true:=by refine cF ff zH ?_;rw[BS,aw];simp[cE,h,eB]
theorem one_le_pow(l:Nat):1<=5^l:=Nat.one_le_pow _ _ (by decide)
variable{P:Program}{w:World}{K:PySem.W.Frag}{mg:Str->Option Value}{base:Heap}{f fN fM fS:Addr}{fd Wo Wk Wv:FuncData}
noncomputable def fE(k:Bool):Str:=if k then"k"else"t"
noncomputable def w0(k:Bool):Str:=if k then"nat"else"var"
def lA(n:Nat):Sp:=λvs H Q _=>∃(p:Addr)(a b:Int)(k:Bool)(l:Nat),vs=[.ref p, .str (fE k), .int l]/\H p=some (.lst [.int a, .int b])/\0<=a/\a<2147483647/\1<=l/\l<=n/\n<=10/\∀(d:D)(v:V)(H':Hp)(c b':Int),Rep H' d v->bf av k d=true->depth d<=l->aB d<=5^l->0<=c->c<2147483647->H' p=some (.lst [.int c, .int b'])->c8 p H H'->Q v H'
theorem bz:aP ["_law_state_here","_law_want","_law_left","_law_number","_law_words","_law_word","_law_parts","_law_kind"] ["_law_state_here","_law_want","_law_left"] (ao dE):=⟨rfl,rfl,rfl,by decide+kernel,rfl,by decide+kernel,by decide+kernel⟩
theorem CY{t:uY}{n:Nat}(D:Df K mg "_law_grown" dE ["_law_state_here","_law_want","_law_left"])(M:Mg mg t)(uO:bZ P w K mg bW "_law_next" (1) ["_law_state_here"] pR)(va:bZ P w K mg bW "_law_name" (1) ["_law_number"] oW)(tQ:bZ P w K mg bW "_law_shape" (1) ["_law_word"] lg)(dI:bZ P w K mg bW "_law_grown" (n+2) ["_law_state_here","_law_want","_law_left"] (lA n)):bZ P w K mg bW "_law_grown" (n+3) ["_law_state_here","_law_want","_law_left"] (lA (n+1)):=by
 refine D.ok bz (λvs H Q E h=>?_) (λbase f cS A outer s H vs Q E hr h=>?_);·obtain⟨p,a,b,k,l,rfl,_⟩:=h;rfl
 obtain⟨p,a,b,k,l,rfl,hp,h0,h1,hl1,Vk,Tr,q⟩:=h;refine⟨_,(ar (aM (i:=3) bz.nd rfl (eN rfl) (aH uO hr.m rfl aX (aa (pv 0) af))) (d7 (bH (aN ck (pv 1) ai (aS _)) (aq (aM (i:=4) bz.nd rfl (eN rfl) (cD (aa ai (aa ai (aa ai (aa ai (aa ai (aa ai (aa ai (aa ai af))))))))))) (ar (aM (i:=4) bz.nd rfl (eN rfl) (cD (aa ai (aa ai (aa ai (aa ai (aa ai (aa ai (aa ai (aa ai (aa ai (aa ai (aa ai (aa ai af)))))))))))))) (aq (aM (i:=4) bz.nd rfl (eN rfl) (aD GU (pv 4) (cD (aa ai (aa ai (aa ai (aa ai af)))))))))) (d7 (bH (L2.PW.pt (uw (aN Ms (pv 2) ag (aS _)) (mE (aN B0 (bY dy (pv 0) ag (λ_ _=>rfl)) ag (aS _))))) (aq (aM (i:=4) bz.nd rfl (eN rfl) (cD (aa (bY dy (pv 4) ag (λ_ _=>rfl)) (aa (bY dy (cD (aa ai (aa ai af))) (gF yV rfl M.Lb Hq (aa (iG ck (pv 1) ai (aS _)) af)) (λ_ _=>rfl)) af))))) aY) (ar (aM (i:=5) bz.nd rfl (eN rfl) (bY dy (pv 4) (aD bU (pv 3) (bK bB rfl M.iz gk (aa (pv 4) af))) (λ_ _=>rfl))) (ar (bH (aN ck (pv 5) ai (aS _)) (ar (bH (aN ck (aD bU (aD cB (pv 3) ag) ag) ag (aS _)) (aq (aF (bA (aa ai (aa (aD bU (aD cB (pv 3) ag) ag) af))))) aY) (aq (aF (bA (aa ai (aa (aD bU (aD cB (pv 3) ag) ag) af)))))) aY) (ar (bH (aN ck (pv 5) ai (aS _)) (aq (aF (bA (aa ai (aa (aH va hr.m rfl aX (aa (aD cB (pv 3) ag) af)) af))))) aY) (ar (aM (i:=6) bz.nd rfl (eN rfl) (cD (aa (pv 5) af))) (ar (mJ PassesOwn.never rfl (Ji (aH tQ (hr.mono (by omega)) rfl aX (aa (pv 5) af))) (cM (i:=7) bz.nd rfl (eN rfl)) (aq (qd (A5 PySem.F.plainAttrs_list PySem.F.slot_list_append PySem.F.type_list_append jq (pv 6) (aa (aH dI hr.m rfl aX (aa (pv 0) (aa (pv 7) (aa (aD jB (pv 2) ag) af)))) af))))) (aq (aF (gF gX rfl M.i_ gw (aa (pv 6) af)))))))))))),?_⟩;try dsimp only[r_,gG]
 refine vN ?_;intro _ _;refine⟨_,rfl,p,a,b,rfl,hp,h0,h1,λa1 r g0 g1 gn=>?_⟩;have W:(upd H p (.lst [.int a1, .int (b-1)])) p=some (.lst [.int a1, .int (b-1)]):=aj;have Pe:c8 p H (upd H p (.lst [.int a1, .int (b-1)])):=c8.upd _;generalize upd H p (.lst [.int a1, .int (b-1)])=H1 at W Pe;refine⟨λL H'=>∃(q4:Addr)(ws:List Str),L=[some (.ref p),some (.str (fE k)),some (.int l),some (.int r),some (.ref q4),none,none,none]/\H' q4=some (.lst (ws.map V.str))/\(∀x∈ws,Wd k false x)/\ws.length<=16/\ws[0]?=some (w0 k)/\H' p=some (.lst [.int a1, .int (b-1)])/\c8 p H H',?_,?_⟩
 ·refine⟨_,rfl,rfl,_,rfl,?_⟩;refine dg (λc=>?_) (λc=>?_);·cases k with|false=>exact absurd c (by decide+kernel)|true=>refine⟨(eZ rfl),λq4 hq=>⟨q4,pF,rfl,aj,O2,by decide,rfl,?_,Pe.trans (ah hq _).x⟩⟩;rw[aI (aA W hq)];exact W
  ·cases k with|true=>exact absurd (by decide+kernel) c|false=>refine⟨(eZ rfl),λq3 SD=>⟨_,rfl,(eZ rfl),λq2 Dn=>?_⟩⟩;have V9:q3≠q2:=aA aj Dn;refine⟨q3,q2,_,_,rfl,rfl,(by rw[aI V9];exact aj),aj,(by show 12+4<=sizeLine;decide),λq4 B=>⟨q4,rQ,rfl,aj,Q0,by decide,rfl,?_,Pe.trans (((ah SD _).trans (ah Dn _)).trans (ah B _)).x⟩⟩;exact((ah SD _).trans (ah Dn _)).trans (ah B _) _ _ W
 rintro xY H2⟨q4,ws,rfl,B,Z,HP,P5,R,NM⟩;have Hr:0<ws.length:=(List.getElem?_eq_some_iff.mp P5).1;refine⟨λL H'=>∃(q4:Addr)(ws:List Str)(lf:Bool),L=[some (.ref p),some (.str (fE k)),some (.int l),some (.int r),some (.ref q4),none,none,none]/\H' q4=some (.lst (ws.map V.str))/\(∀x∈ws,Wd k lf x)/\0<ws.length/\ws.length<=16/\(l<=1->lf=true)/\H' p=some (.lst [.int a1, .int (b-1)])/\c8 p H H',?_,?_⟩
 ·refine⟨_,rfl,_,_,rfl,rfl,_,rfl,?_⟩;refine dg (λc=>iI ?_) (λc=>⟨_,rfl,p,_,_,_,rfl,rfl,bO.of R,rfl,_,_,rfl,rfl,_,rfl,dg (λc2=>?_) (λc2=>?nl)⟩);case nl=>have c:¬(l:Int)<=1:=of_decide_eq_false (Bool.eq_false_iff.mpr c);exact⟨q4,ws,false,rfl,B,Z,Hr,HP,λz=>by omega,R,NM⟩
  all_goals
   have e0:rO (ws.map V.str) 0=some (.str (w0 k)):=bF (j:=0) (by rw[fU,P5];rfl);refine⟨_,rfl,q4,_,_,_,rfl,rfl,bO.of B,e0,(eZ rfl),λq5 X=>⟨_,rfl,rfl, .inr ⟨_,rfl,?_⟩⟩⟩;cases k with
    |true=>
     refine⟨q5,_,_, .str "none",rfl,rfl,bO.of aj,rfl,(eZ rfl),λu J=>⟨u,["nat","none"],true,rfl,aj,?_,by decide,by decide,λ_=>rfl,?_,NM.trans ((ah X _).trans (ah J _)).x⟩⟩
     ·intro x F;simp only[List.mem_cons,List.not_mem_nil,or_false]at F;rcases F with rfl|rfl;·exact qw (by decide+kernel) (by decide+kernel) (by decide+kernel) CW Bx
      ·exact qw (by decide+kernel) (by decide+kernel) (by decide+kernel) zt yw
     ·exact((ah X _).trans (ah J _)) _ _ R
    |false=>
     refine⟨q5,_,_, .str "zero",rfl,rfl,bO.of aj,rfl,(eZ rfl),λu J=>⟨u,["var","zero"],true,rfl,aj,?_,by decide,by decide,λ_=>rfl,?_,NM.trans ((ah X _).trans (ah J _)).x⟩⟩
     ·intro x F;simp only[List.mem_cons,List.not_mem_nil,or_false]at F;rcases F with rfl|rfl;·exact .inl ⟨rfl,rfl⟩
      ·exact qw (by decide+kernel) (by decide+kernel) (by decide+kernel) yp yS
     ·exact((ah X _).trans (ah J _)) _ _ R
 clear R NM B Z HP P5 Hr;rintro J5 U⟨q4,ws,lf,rfl,B,Z,Hr,HP,V0,OH,QS⟩;have hlen:(ws.map V.str).length=ws.length:=cT _;have i0:0<=r%(ws.length:Int):=Int.emod_nonneg _ (by omega);have i1:r%(ws.length:Int)<ws.length:=Int.emod_lt_of_pos _ (by omega);have hi:(r%(ws.length:Int)).toNat<ws.length:=by omega
 obtain⟨x,F⟩:∃x,ws[(r%(ws.length:Int)).toNat]?=some x:=⟨_,zQ03 hi⟩;have y_:rO (ws.map V.str) (r%((ws.map V.str).length:Int))=some (.str x):=by
  rw[hlen];have e:r%(ws.length:Int)=(((r%(ws.length:Int)).toNat:Nat):Int):=by omega
  rw[e];exact bF (by rw[fU,F];rfl)
 have hW:Wd k lf x:=Z x (List.mem_of_getElem? F);refine⟨_,rfl,_,rfl,_,rfl,q4,_,rfl, .inl (bO.of B),_,_,rfl,rfl,(by show(0:Int)<(((ws.map V.str).length:Nat):Int);rw[hlen];omega),q4,_,_,_,rfl,rfl,bO.of B,y_,?_⟩;have done:∀(ds:List KM.D)(us:List V)(t:Addr)(C:Hp)(g b':Int),C t=some (.tup us)->bb C ds us->bf av k (.tup ds)=true->depth (.tup ds)<=l->aB (.tup ds)<=5^l->0<=g->g<2147483647->C p=some (.lst [.int g, .int b'])->c8 p H C->Q (.ref t) C:=λds us t C g b' e1 e2 e3 N O I e7 e8 e9=>q (.tup ds) (.ref t) C g b' ⟨t,us,rfl,e1,e2⟩ e3 N O I e7 e8 e9;have Fl:∀(x y:KM.D),aB x=0->aB y=0->depth x=0->depth y=0->depth (.tup [x,y])<=l/\aB (.tup [x,y])<=5^l:=λx y k1 k2 d1 d2=>by have :=one_le_pow l;simp only[depth,az,aB,aC,k1,k2,d1,d2];omega
 refine⟨_,rfl,rfl,_,rfl,?_⟩;refine dg (λc=>?_) (λc=>?_)
 ·have c:V.str x=V.str "var":=of_decide_eq_true c;cases c;have T:k=false:=by
   rcases hW with⟨_,h⟩|⟨h,_⟩|⟨h,_⟩;·exact h
   ·exact absurd h (by decide+kernel)
   ·exact absurd rfl h
  have fin:∀(z:Int)(t:Addr),0<=z->z<=99->U t=none->Q (.ref t) (upd U t (.tup [.str "var", .int z])):=λz t z0 z1 ht=>by obtain⟨N,O⟩:=Fl (.str "var") (.int z) rfl rfl rfl rfl;exact done [.str "var", .int z] _ t _ a1 (b-1) aj ⟨_,_,rfl,⟨rfl,by decide⟩,_,_,rfl,rfl,rfl⟩ (by rw[T];exact qh z0 z1) N O g0 g1 (ah ht _ _ _ OH) (QS.trans (ah ht _).x)
  refine⟨_,rfl,_,_,rfl,rfl,⟨by decide,by decide⟩,_,_,rfl,rfl,(by show(0:Int)<9;decide),rfl,_,rfl,?_⟩;refine dg (λc=>?_) (λc=>?_);·refine⟨_,rfl,_,_,rfl,rfl,⟨by decide,by decide⟩,_,_,rfl,rfl,(by show(0:Int)<100;decide),(eZ rfl),λt ht=>fin _ t (Int.emod_nonneg _ (by decide)) ?_ ht⟩;have :=Int.emod_lt_of_pos (r/144) (show(0:Int)<100 by decide);omega
  ·refine⟨_,rfl,_,_,rfl,rfl,⟨by decide,by decide⟩,_,_,rfl,rfl,(by show(0:Int)<5;decide),(eZ rfl),λt ht=>fin _ t (Int.emod_nonneg _ (by decide)) ?_ ht⟩;have :=Int.emod_lt_of_pos (r/144) (show(0:Int)<5 by decide);omega
 have nv:x≠"var":=λz=>c (by rw[z];decide+kernel);refine⟨_,rfl,rfl,_,rfl,?_⟩;refine dg (λc=>?_) (λc=>?_)
 ·have c:V.str x=V.str "name":=of_decide_eq_true c;cases c;have T:k=false:=by
   rcases hW with⟨h,_⟩|⟨_,h,_⟩|⟨_,h,_⟩;·exact absurd h nv
   ·exact h
   ·exact absurd rfl h
  refine⟨_,rfl,_,_,rfl,rfl,⟨by decide,by decide⟩,_,rfl,Int.ediv_nonneg gn (by decide),λy hy=>⟨(eZ rfl),λt ht=>?_⟩⟩;obtain⟨N,O⟩:=Fl (.str "name") (.str y) rfl rfl rfl rfl;exact done [.str "name", .str y] _ t _ a1 (b-1) aj ⟨_,_,rfl,⟨rfl,by decide⟩,_,_,rfl,⟨rfl,by omega⟩,rfl⟩ (by rw[T];exact DV rfl) N O g0 g1 (ah ht _ _ _ OH) (QS.trans (ah ht _).x)
 have nn:x≠"name":=λz=>c (by rw[z];decide+kernel);obtain⟨VQ,T,G,JY,Rp,h4,L5⟩:x.length<=12/\eW x=k/\∃s,bh x= .str s/\(∀c∈s.cps.toList,c=107\/c=116)/\s.cps.size<=4/\(lf=true->s=""):=by
  rcases hW with⟨h,_⟩|⟨h,_⟩|⟨_,_,h1,h2,h3⟩;·exact absurd h nv
  ·exact absurd h nn
  ·exact⟨h1,h2,h3⟩
 refine⟨_,rfl,(eZ rfl),λu J=>?_⟩;have Hl:U u=none:=J;refine⟨_,rfl,x,rfl,λC s4=>?_⟩;rw[JY];refine⟨G,rfl,uS G.cps.size (λi L H'=>∃(ds:List KM.D)(us:List V)(g b':Int)(kv:Option V),L=[some (.ref p),some (.str (fE k)),some (.int l),some (.int r),some (.ref q4),some (.str x),some (.ref u),kv]/\H' u=some (.lst (.str x::us))/\bb H' ds us/\eB av (G.cps.toList.take i) ds=true/\us.length=i/\az ds<=l-1/\aC ds<=i*5^(l-1)/\0<=g/\g<2147483647/\H' p=some (.lst [.int g, .int b'])/\c8 p U H') ?_ ?_ ?_⟩;·refine⟨[],[],a1,b-1,none,rfl,s4 _ _ aj,rfl,by simp[eB],rfl,zQ11 _,by simp[aC],g0,g1,?_,λc o _ h=>s4 _ _ (ah Hl _ _ _ h)⟩;exact s4 _ _ (ah Hl _ _ _ OH)
 ·rintro i L H5 U3⟨ds,us,g,b',kv,rfl,I,rp,Y,PL,Uc,Ud,g5,Qo,ep,sx⟩;refine⟨U3,?_⟩;rintro x' H'⟨rfl,c,hc,rfl⟩;have S:G.cps.toList[i]?=some c:=by simpa using hc
  have Oy:c∈G.cps.toList:=List.mem_of_getElem? S;have Rv:2<=l:=by
   refine Nat.le_of_not_lt λz=>?_;have e:=L5 (V0 (by omega));subst e;have e0:(Str.ofString "").cps.size=0:=by decide
   omega
  have n6:u≠p:=F0 I ep (by intro z;cases z);have el:((l:Int)-1)=((l-1:Nat):Int):=by omega
  obtain⟨kk,UL,U4⟩:∃kk:Bool,(⟨#[c]⟩:Str)=fE kk/\∀d,bf av kk d=true->cE av c d=true:=by
   rcases Rp c Oy with rfl|rfl;·exact⟨true,by decide+kernel,λd h=>by simpa[cE]using h⟩
   ·exact⟨false,by decide+kernel,λd h=>by simpa[cE]using h⟩
  refine⟨_,rfl, .inl ⟨rfl,_,bO.of I⟩,_,rfl,_,rfl,_,rfl,_,_,rfl,rfl,p,g,b',kk,l-1,(by rw[<-UL];exact congrArg (λz=>[V.ref p,V.str ⟨#[c]⟩,V.int z]) el),ep,g5,Qo,by omega,by omega,by omega,λd v H6 a6 b6 r6 w6 WK WE z6 Ue Oz s6=>?_⟩;have SM:H6 u=some (.lst (.str x::us)):=s6 _ _ n6 I;have np:∀vs,H' p≠some (.tup vs):=λvs z=>by rw[ep]at z;cases z
  have nq:∀vs,H6 u≠some (.tup vs):=λvs z=>by rw[SM]at z;cases z
  refine⟨u,_,v,rfl,rfl,SM,(by show(us.length+1)<sizeLine;rw[PL];exact dQ (show i+1<100 by omega) (by decide)),?_⟩;refine⟨ds++[d],us++[v],a6,b6,_,rfl,aj,?_,?_,?_,?_,?_,z6,Ue,?_,?_⟩;·exact bb.kD (c8.upd _) nq ((bb.kD s6 np rp).snoc r6)
  ·have et:G.cps.toList.take (i+1)=G.cps.toList.take i++[c]:=by rw[List.take_add_one,S];rfl
   rw[et];exact uA Y (U4 d w6)
  ·rw[fK,PL];rfl
  ·rw[ig];simp only[az];omega
  ·rw[ic];simp only[aC];rw[Nat.succ_mul];omega
  ·rw[aI n6.symm];exact Oz
  ·intro c' o S h;rw[aI (aA h Hl)];exact s6 _ _ S (sx _ _ S h)
 ·rintro L H5⟨ds,us,g,b',kv,rfl,I,rp,Y,PL,Uc,Ud,g5,Qo,ep,sx⟩;refine⟨zQ04 _,?_⟩;refine⟨_,rfl,u,_,rfl, .inl ⟨bO.of I,λt ht=>?_⟩⟩;rw[List.take_of_length_le (by simp)]at Y;have UP:4*5^(l-1)+1<=5^l:=by obtain⟨m,rfl⟩:∃m,l=m+1:=⟨l-1,by omega⟩;have :=one_le_pow m;rw[Nat.add_sub_cancel,Nat.pow_succ];omega
  refine done (.str x::ds) _ t _ g b' aj ⟨_,_,rfl,⟨rfl,by omega⟩,rp.mono (ah ht _)⟩ (cF JY T Y) ?_ ?_ g5 Qo (ah ht _ _ _ ep) (QS.trans (sx.trans (ah ht _).x));·simp only[depth,az];omega
  ·simp only[aB,aC];have :G.cps.size*5^(l-1)<=4*5^(l-1):=Nat.mul_le_mul_right _ h4;omega
variable{t:uY}
theorem GR(D:Df K mg "_law_cell_at" cH ["_law_script","_law_k"])(M:Mg mg t):bZ P w K mg bW "_law_cell_at" (1) ["_law_script","_law_k"] (vz K):=by obtain⟨f,fd,F,m,b⟩:=D;exact⟨f,fd,λbase=>Dd F M.iz,m,F.kp,b⟩
theorem Ip(D:Df K mg "_law_next" eD ["_law_state_here"]):bZ P w K mg bW "_law_next" (1) ["_law_state_here"] pR:=by obtain⟨f,fd,F,m,b⟩:=D;exact⟨f,fd,λbase=>D7 F,m,F.kp,b⟩
theorem EN(D:Df K mg "_law_state" dG ["_law_cell","_law_most"]):bZ P w K mg bW "_law_state" (1) ["_law_cell","_law_most"] oO:=by obtain⟨f,fd,F,m,b⟩:=D;exact⟨f,fd,λbase=>AU F,m,F.kp,b⟩
theorem Dk(D:Df K mg "_law_shape" dO ["_law_word"]):bZ P w K mg bW "_law_shape" (1) ["_law_word"] lg:=by obtain⟨f,fd,F,m,b⟩:=D;exact⟨f,fd,λbase=>Br F,m,F.kp,b⟩
theorem Jk(D:Df K mg "_law_name" eF ["_law_number"]):bZ P w K mg bW "_law_name" (1) ["_law_number"] oW:=by obtain⟨f,fd,F,m,b⟩:=D;exact⟨f,fd,λbase=>Ds F,m,F.kp,b⟩
theorem x6(D:Df K mg "_law_grown" dE ["_law_state_here","_law_want","_law_left"])(M:Mg mg t)(d:bZ P w K mg bW "_law_next" (1) ["_law_state_here"] pR)(c:bZ P w K mg bW "_law_name" (1) ["_law_number"] oW)(e:bZ P w K mg bW "_law_shape" (1) ["_law_word"] lg):∀n:Nat,bZ P w K mg bW "_law_grown" (n+2) ["_law_state_here","_law_want","_law_left"] (lA n)|0=>bZ.never D λvs H Q E h=>by obtain⟨p,a,b,k,l,_,_,_,_,h1,h2,_⟩:=h;omega|n+1=>CY D M d c e (x6 D M d c e n)
end K17
end
section
namespace K17
open PySem L2 L3 KM
seal L2.PE L2.PS L2.fY L2.PT L2.PW L2.PA L2.PG L2.wN L2.PI L2.PC L2.PO L2.vT L2.PK L3.vW
variable{P:Program}{w:World}{K:PySem.W.Frag}{mg:Str->Option Value}{base:Heap}{t:uY}
noncomputable def ft:List (Str×List V):=[("nat",[]),("none",[]),("all",[.str "kind", .str "kind"]),("some",[.str "kind", .str "kind"]),("same",[.str "kind", .str "term", .str "term"]),("var",[]),("fun",[.str "kind", .str "term"]),("app",[.str "term", .str "term"]),("zero",[]),("next",[.str "term"]),("rec",[.str "kind", .str "term", .str "term", .str "term"]),("like",[.str "kind", .str "term"]),("carry",[.str "kind", .str "term", .str "term"]),("never",[.str "kind", .str "term"]),("pair",[.str "kind", .str "term", .str "term"]),("first",[.str "term"]),("second",[.str "term"]),("name",[])]
noncomputable def KN(c:Nat):V:=if c=107 then .str "kind"else .str "term"
noncomputable def Gj(r:Str×List V):Bool:=match bh r.1 with| .str s=>decide (s.cps.size<=4)&&if r.1="var"then decide (s="n")else if r.1="name"then decide (s="w")else s.cps.toList.all (λc=>c==107||c==116)&&decide (r.2=s.cps.toList.map KN)|_=>false
theorem D4:ft.all Gj=true:=by decide+kernel
theorem lookup_mem{a:Type}{x:Str}{v:a}:∀{l:List (Str×a)},l.lookup x=some v->(x,v)∈l
 |[],h=>by simp at h
 |(k,u)::l,h=>by
  rw[jc]at h;cases e:x==k with
   |true=>
    rw[e]at h;obtain rfl:x=k:=by simpa using e
    cases h;exact cY
   |false=>rw[e]at h;exact c_ _ (lookup_mem h)
theorem lookup_none{a:Type}{x:Str}:∀{l:List (Str×a)},l.lookup x=none->x∉l.map (·.1)
 |[],_=>by simp
 |(k,u)::l,h=>by
  rw[jc]at h;cases e:x==k with
   |true=>rw[e]at h;cases h
   |false=>
    rw[e]at h;have :=lookup_none h;have e:¬x=k:=by simpa using e
    simp only[eO,List.mem_cons,not_or];exact⟨e,this⟩
inductive Vs(w:Str):Prop where|a_(h1:ft.lookup w=none)(h2:bh w= .a_)|var(h1:ft.lookup w=some [])(h2:w="var")|name(h1:ft.lookup w=some [])(h2:w="name")|Nt(s:Str)(h1:ft.lookup w=some (s.cps.toList.map KN))(h2:bh w= .str s)(h3:w≠"var")(h4:w≠"name")(h5:∀c∈s.cps.toList,c=107\/c=116)(h6:s.cps.size<=4)
theorem Ej{tab:List (Key×V)}{w:Str}(h:∀k∈tab.map (·.1),k≠Sum.inr w):eR tab (Sum.inr w:Key)=none:=by cases e:eR tab (Sum.inr w:Key)with|none=>rfl|some v=>exact absurd rfl (h _ (DM e))
noncomputable def Gs(k:Key)(l:List Str):Bool:=match k with| .inr x=>decide (x∈l)| .inl _=>true
theorem RH(w:Str):Vs w:=by
 cases h:ft.lookup w with
  |none=>
   refine .a_ h ?_;have l:=lookup_none h;have sub:∀tab:List (Key×V),(tab.map (·.1)).all (λk=>Gs k (ft.map (·.1)))=true->eR tab (Sum.inr w:Key)=none:=λtab ht=>Ej λk j z=>by subst z;have :=List.all_eq_true.mp ht _ j;simp only[Gs,decide_eq_true_eq]at this;exact l this
   have a:=sub nA (by decide+kernel);have b:=sub nM (by decide+kernel);have c:=sub yR (by decide+kernel);unfold bh;rw[a,b,c];rfl
  |some ds=>
   have m:=lookup_mem h;have g:=List.all_eq_true.mp D4 _ m;unfold Gj at g;by_cases hv:w="var";·subst hv;exact .var (by decide+kernel) rfl
   ·by_cases hn:w="name";·subst hn;exact .name (by decide+kernel) rfl
    ·cases e:bh w with|str s=>rw[e]at g;simp only[hv,hn,if_false,cw,List.all_eq_true,Bool.or_eq_true,beq_iff_eq,decide_eq_true_eq]at g;obtain⟨d,f,i⟩:=g;exact .Nt s (by rw[h,i]) e hv hn f d|_=>rw[e]at g;simp at g
noncomputable def bV(x:Str):Bool:=decide (x="var")||decide (x="name")
noncomputable def ak(x:Str)(ps:List D):List D:=if bV x=true then[]else ps
def g7:Sp:=λvs H Q _=>∃(x:Str)(ps:List D)(v:V),vs=[v]/\Rep H (.tup (.str x::ps)) v/\ps.length<=10/\∀(a:Addr)(us:List V)(H':Hp),H a=none->aK H H'->H' a=some (.lst us)->bb H' (ak x ps) us->Q (.ref a) H'
theorem u9:aP ["thing"] ["thing"] (ao gA):=⟨rfl,rfl,rfl,by decide+kernel,rfl,by decide+kernel,by decide+kernel⟩
theorem yT(D:Df K mg "kids_of" gA ["thing"])(M:Mg mg t):bZ P w K mg bW "kids_of" (1) ["thing"] g7:=by
 refine D.ok u9 (λvs H Q E h=>?_) (λbase f cS A outer s H vs Q E hr h=>?_);·obtain⟨x,ps,v,rfl,_⟩:=h;rfl
 obtain⟨x,ps,v,rfl,r,hl,q⟩:=h;obtain⟨a,us,rfl,ha,o,us,rfl,⟨rfl,n⟩,g⟩:=r;have m:=g.length;have d:rO (V.str x::us) 0=some (.str x):=bF (j:=0) rfl;have hT:d8 K H a (.str x::us):=d8.of ha;refine⟨_,(ar (bH (L2.PW.pt (uw (aN ck (bY da (pv 0) ag (λ_ _=>rfl)) ai (aS _)) (mE (aN ck (bY da (pv 0) ag (λ_ _=>rfl)) ai (aS _))))) (aq (aF (cD af))) aY) (aq (aF (gF oZ rfl M.Jd EK (aa (BQ DC (pv 0) (fk ag) dA) af))))),?_⟩;try dsimp only[r_,k]
 refine vN ?_;intro _ _;have leaf:bV x=true->0<=sizeLine/\∀p,H p=none->Q (.ref p) (upd H p (.lst [])):=λc=>⟨zQ11 _,λp b=>q p [] _ b (ah b _) aj (by unfold ak;rw[if_pos c];exact rfl)⟩;refine⟨_,rfl,a,_,_,_,rfl,rfl,hT,d,rfl,_,rfl,?_⟩;refine dg (λc=>?_) (λc=>?_);·refine iI ?_;have c:V.str x=V.str "var":=of_decide_eq_true c;cases c;exact leaf rfl
 refine⟨_,rfl,a,_,_,_,rfl,rfl,hT,d,rfl,_,rfl,?_⟩;refine dg (λc2=>?_) (λc2=>?_);·have c2:V.str x=V.str "name":=of_decide_eq_true c2;cases c2;exact leaf (by decide+kernel)
 have nl:bV x=false:=by unfold bV;have h1:x≠"var":=λz=>c (by rw[z];decide+kernel);have h2:x≠"name":=λz=>c2 (by rw[z];decide+kernel);simp[h1,h2]
 have i:ak x ps=ps:=by unfold ak;rw[nl];rfl
 rw[i]at q;have e:nu (V.str x::us) (some 1) none=us:=by have :=yJ (V.str x::us) 1;simpa using this
 refine⟨_,rfl,_,rfl,a,_,rfl,hT,λp b=>?_,λz=>?_⟩;·rw[e];refine⟨p,us,rfl, .inr (d8.of aj),λl hl=>?_⟩;exact q l us _ ((ah b _).free hl) ((ah b _).trans (ah hl _)) aj (g.mono ((ah b _).trans (ah hl _)))
 ·rw[e]at z;exact absurd (congrArg List.length z) (by simp)
theorem iC{a:D->Bool}:∀{cs:List Nat}{ps:List D},eB a cs ps=true->cs.length=ps.length|[],[],_=>rfl|[],_::_,h=>by simp[eB]at h|_::_,[],h=>by simp[eB]at h|c::cs,p::ps,h=>by rw[aw,cw]at h;rw[gH,gH,iC h.2]
noncomputable def J7(c:Nat):Bool:=!(Builtin.Str.occurrences (Str.ofString "kt") ⟨#[c]⟩ 0 (Str.ofString "kt").length 1).isEmpty
theorem Ri:J7 107=true:=by decide+kernel
theorem Si:J7 116=true:=by decide+kernel
theorem Wi:J7 110=false:=by decide+kernel
theorem Ub:J7 119=false:=by decide+kernel
theorem bT{f:D->Bool}{k:Bool}{x:Str}{ps:List D}(h:bf f k (.tup (.str x::ps))=true):∃s,bh x= .str s/\eW x=k/\eB f s.cps.toList ps=true/\s.cps.size<=4/\s.cps.toList.length=ps.length/\(∀c∈s.cps.toList,J7 c=!bV x)/\(bV x=false->∀c∈s.cps.toList,c=107\/c=116)/\∃r,ft.lookup x=some r/\r.length=(ak x ps).length:=by
 have d:∀s,bh x= .str s->eW x=k/\eB f s.cps.toList ps=true:=λs e=>by rw[bf,e,cw]at h;exact⟨by simpa using h.1,h.2⟩
 cases RH x with
  |a_ h1 h2=>rw[bf,h2]at h;simp at h
  |var h1 h2=>subst h2;obtain⟨b,a⟩:=d _ cV;refine⟨_,cV,b,a,by decide,iC a,λc hc=>?_,λz=>absurd z (by decide+kernel),_,h1,by unfold ak;rw[if_pos (by decide+kernel)];rfl⟩;rw[mq]at hc;rw[List.mem_singleton.mp hc,Wi];decide+kernel
  |name h1 h2=>subst h2;obtain⟨b,a⟩:=d _ ff;refine⟨_,ff,b,a,by decide,iC a,λc hc=>?_,λz=>absurd z (by decide+kernel),_,h1,by unfold ak;rw[if_pos (by decide+kernel)];rfl⟩;rw[BS]at hc;rw[List.mem_singleton.mp hc,Ub];decide+kernel
  |Nt s h1 h2 h3 h4 h5 h6=>
   obtain⟨b,a⟩:=d s h2;have nl:bV x=false:=by unfold bV;simp[h3,h4]
   refine⟨s,h2,b,a,h6,iC a,λc hc=>?_,λ_=>h5,_,h1,?_⟩
   ·rw[nl];rcases h5 c hc with z|z<;>rw[z];·exact Ri
    ·exact Si
   ·unfold ak;rw[nl,cT,iC a];rfl
theorem u7{a:Type}{n:Nat}:(List.range n).filterMap (λ_=>(none:Option a))=[]:=by simp
end K17
end
section
namespace K17
open PySem L2 L3 KM PyProof.Rows
seal L2.PE L2.PS L2.fY L2.PT L2.PW L2.PA L2.PG L2.wN L2.PI L2.PC L2.PO L2.vT L2.PK L3.vW
variable{P:Program}{w:World}{K:PySem.W.Frag}{mg:Str->Option Value}{base:Heap}{t:uY}
noncomputable def BO:List (Str×V):=[("all", .int 1),("some", .int 1),("fun", .int 1),("rec", .int 0),("carry", .int 0)]
noncomputable def wG(x:Str):V:=(KTD.datumAt x BO).getD .a_
noncomputable def gS(x:Str)(i:Nat):V:=if decide (V.int i=wG x)=true then .int 1 else .int 0
noncomputable def jv(x:Str)(n:Nat):List V:=(List.range n).map (gS x)
def iy:Sp:=λvs H Q _=>∃(x:Str)(ps:List D)(v:V)(k:Bool),vs=[v]/\Rep H (.tup (.str x::ps)) v/\bf av k (.tup (.str x::ps))=true/\∀(a:Addr)(H':Hp),aK H H'->H' a=some (.lst (jv x (ak x ps).length))->Q (.ref a) H'
theorem yl(x:Str)(i:Int):CG (.int i) (wG x)=true:=by
 unfold wG;cases e:KTD.datumAt x BO with
  |none=>rfl
  |some v=>
   have :v= .int 1\/v= .int 0:=by
    simp only[KTD.datumAt,BO]at e;repeat' split at e
    all_goals first|(cases e;exact .inl rfl)|(cases e;exact .inr rfl)|cases e
   rcases this with z|z<;>rw[z]<;>rfl
theorem kF:aP ["thing","over"] ["thing"] (ao eG):=⟨rfl,rfl,rfl,by decide+kernel,rfl,by decide+kernel,by decide+kernel⟩
theorem uP(D:Df K mg "binds_of" eG ["thing"])(M:Mg mg t){as:List Addr}(T:KD K t.lK ft as)(B:mZ K t.fP BO):bZ P w K mg bW "binds_of" (1) ["thing"] iy:=by
 refine D.ok kF (λvs H Q E h=>?_) (λbase f cS A outer s H vs Q E hr h=>?_);·obtain⟨x,ps,v,k,rfl,_⟩:=h;rfl
 obtain⟨x,ps,v,k,rfl,r,wf,q⟩:=h;obtain⟨a,us,rfl,ha,Y,us,rfl,⟨rfl,W⟩,G⟩:=r;have O:=G.length;have m:rO (V.str x::us) 0=some (.str x):=bF (j:=0) rfl;have hT:d8 K H a (.str x::us):=d8.of ha;obtain⟨X,S,J,U,h4,hlen,L,_,d,F,o⟩:=bT wf;obtain⟨b,y,z⟩:=T.some F;have hn:(ak x ps).length<=4:=by
  unfold ak;split;·exact zQ11 _
  ·rw[<-hlen];simpa using h4
 refine⟨_,(ar (aM (i:=1) kF.nd rfl (eN rfl) (BJ (pH M.g_BINDER_OVER rfl) (bY da (pv 0) ag (λ_ _=>rfl)) ⟨rfl,rfl,rfl,rfl⟩)) (aq (aF (ll (N':=["number","over"]) (own:=1) (fr:=[1]) rfl (lU (N:=["thing","over"]) (sc:=ao eG) rfl rfl rfl (by decide+kernel)) (gE rfl M.lF (aa (bK bB rfl M.iz gk (aa (Jn (pH M.g_KIDS_DUE rfl) (bY da (pv 0) ag (λ_ _=>rfl)) (λ_ _=>rfl)) af)) af)) (iq (by decide)) (λ_ _ _=>(cM (i:=0) (show List.Nodup (["number","over"]:List Str)by decide+kernel) rfl (Or.inl rfl))) (λ_ _ _=>qb) (λ_ _ _=>(fZ (aN ck (pv 0) (pv 1) (aS _)) ag ag)))))),?_⟩;try dsimp only[r_,I]
 refine vN ?_;intro _ _;refine⟨_,_,rfl,B,_,rfl,a,_,_,_,rfl,rfl,hT,m,x,rfl,?_⟩;refine⟨_,rfl,a,_,_,_,rfl,rfl,hT,m,_,_,x,_,rfl,rfl,T.tab,y,b,_,rfl, .inr (z H),_,rfl,(by show-(2^62)<=((d.length:Nat):Int);omega),(by show((d.length:Nat):Int)<2^62;omega),λp C=>yN d.length (gS x) C (by rw[o];exact cu hn (by decide)) (λi g hi s2=>⟨hi,?_⟩) λg s2 h2=>⟨zQ04 _,?_⟩⟩
 ·rintro Z l⟨rfl,rfl⟩R n;have u:(0:Int)+(i:Int)=((i:Nat):Int):=by omega
  rw[u];refine⟨_,rfl,_,rfl,yl x i,_,rfl,?_⟩;refine dg (λc=>?_) (λc=>?_)
  ·have e:gS x i= .int 1:=by unfold gS;exact if_pos c
   have :=n l (aK.refl _);rw[e]at this;exact this
  ·have e:gS x i= .int 0:=by unfold gS;exact if_neg c
   have :=n l (aK.refl _);rw[e]at this;exact this
 ·rw[o]at h2;exact q p g s2 h2
mutual noncomputable def wide:D->Prop| .tup ds=>ds.length<=4000000/\xk ds|_=>True noncomputable def xk:List D->Prop|[]=>True|d::ds=>wide d/\xk ds end
theorem n8:∀{ds:List D}{i:Nat}{d:D},xk ds->ds[i]?=some d->wide d|[],_,_,_,e=>by simp at e|_::_,0,_,h,e=>by simp at e;subst e;exact h.1|_::ds,i+1,d,h,e=>n8 (i:=i) h.2 (by simpa using e)
theorem jA:∀{ps:List D}{i:Nat}{p:D},ps[i]?=some p->depth p<=az ps|[],_,_,e=>by simp at e|p::ps,0,_,e=>by simp at e;subst e;simp only[az];omega|_::ps,i+1,p,e=>by have :=jA (ps:=ps) (i:=i) (by simpa using e);simp only[az];omega
def i7(n:Nat):Sp:=λvs H Q _=>∃(d:D)(v u:V),vs=[v,u]/\Rep H d v/\Rep H d u/\wide d/\depth d<n/\∀H',aK H H'->Q (.bl true) H'
theorem pM:aP ["_law_told","_law_due"] ["_law_told","_law_due"] (ao cW):=⟨rfl,rfl,rfl,by decide+kernel,rfl,by decide+kernel,by decide+kernel⟩
theorem pU{n:Nat}(D:Df K mg "_law_alike" cW ["_law_told","_law_due"])(M:Mg mg t)(o:bZ P w K mg bW "_law_alike" (n) ["_law_told","_law_due"] (i7 n)):bZ P w K mg bW "_law_alike" (n+1) ["_law_told","_law_due"] (i7 (n+1)):=by
 refine D.ok pM (λvs H Q E h=>?_) (λbase f cS A outer s H vs Q E hr h=>?_);·obtain⟨d,v,u,rfl,_⟩:=h;rfl
 obtain⟨d,v,u,rfl,r1,r2,hw,hd,q⟩:=h;have I:=Cb hr;refine⟨_,(ar (bH (gb (bK dN rfl M.de cJ (aa (pv 1) (aa (ug M.i_ gw rfl) af)))) (ar (bH (L2.PW.pt (uw (ma (gb (bK dN rfl M.de cJ (aa (pv 0) (aa (ug M.i_ gw rfl) af))))) (mE (aN KQ (bK bB rfl M.iz gk (aa (pv 0) af)) (bK bB rfl M.iz gk (aa (pv 1) af)) (aS _))))) (aq (aF nX)) aY) (aq (aF (iG (Jq I) (ll (N':=["_law_k","_law_told","_law_due"]) (own:=1) (fr:=[0,1]) rfl (lU (N:=["_law_told","_law_due"]) (sc:=ao cW) rfl rfl rfl (by decide+kernel)) (gE rfl M.lF (aa (bK bB rfl M.iz gk (aa (pv 1) af)) af)) (iq (by decide)) (λ_ _ _=>(cM (i:=0) (show List.Nodup (["_law_k","_law_told","_law_due"]:List Str)by decide+kernel) rfl (Or.inl rfl))) (λ_ _ _=>(vS (ma (gb (aH o hr.m rfl aX (aa (bY (xh (K:=K)) (pv 1) (pv 0) (λ_ _=>rfl)) (aa (bY (xh (K:=K)) (pv 2) (pv 0) (λ_ _=>rfl)) af))))))) (λ_ _ _=>(pv 0))) (cD af) (aS _))))) aY) (aq (aF (HW (iG ck (bK dN rfl M.de cJ (aa (pv 0) (aa (ug M.CQ xa rfl) af))) (bK dN rfl M.de cJ (aa (pv 1) (aa (ug M.CQ xa rfl) af))) (aS _)) (IV (iG ck (pv 0) (pv 1) (aS _))))))),?_⟩;try dsimp only[r_,Z]
 refine vN ?_;intro _ _;refine⟨_,rfl,_,_,_,_,rfl,r2.ty,rF _ d,_,rfl,?_⟩;refine dg (λc=>?_) (λc=>?_)
 ·cases d with
   |tup ds=>
    obtain⟨a,vs,rfl,ha,ra⟩:=id r1;obtain⟨b,us,rfl,hb,rb⟩:=id r2;have la:=ra.length;have lb:=rb.length;refine⟨_,rfl,_,_,_,_,rfl,r1.ty,rF _ (.tup ds),_,rfl,dZ ?_⟩;refine⟨_,rfl,a,_,rfl, .inr (d8.of ha),_,rfl,b,_,rfl, .inr (d8.of hb),rfl,_,rfl,?_⟩;rw[la,lb];refine Lj rfl ?_;have G:ds.length<=sizeLine:=cu hw.1 (by decide);have WH:=hw.1;refine⟨_,rfl,b,_,rfl, .inr (d8.of hb),_,rfl,(by show-(2^62)<=((us.length:Nat):Int);omega),(by show((us.length:Nat):Int)<2^62;omega),λp F=>tD us.length (λ_=>none) F (by rw[lb];exact G) (λi r hi s2=>⟨hi,?_⟩) λr s2 h2=>⟨zQ04 _,?_⟩⟩
    ·rintro x' X⟨rfl,rfl⟩R Y hR B;have j:(0:Int)+(i:Int)=((i:Nat):Int):=by omega
     obtain⟨e,g⟩:∃e,ds[i]?=some e:=⟨_,zQ03 (by omega)⟩;obtain⟨m,L,U⟩:=ra.get g;obtain⟨l,J,T⟩:=rb.get g;have C:depth e<n:=by have :=jA g;simp only[depth]at hd;omega
     refine⟨_,rfl,_,rfl,a,_,_,m,rfl,rfl,d8.of (s2 _ _ ha),(by rw[j];exact bF L),_,rfl,_,rfl,b,_,_,l,rfl,rfl,d8.of (s2 _ _ hb),(by rw[j];exact bF J),e,m,l,rfl,U.mono s2,T.mono s2,n8 hw.2 g,C,λy W=>⟨_,rfl,?_⟩⟩;exact dZ (B y rfl W)
    ·rw[u7]at h2;refine⟨by show 0<=sizeLine;decide,λS k=>⟨p,S,_,_,rfl,rfl,bO.of (by rw[aI (aA h2 k)];exact h2),bO.of aj,rfl,rfl,?_⟩⟩;exact q _ (s2.trans (ah k _))
   |_=>cases c
 ·have hb:∀b:Bool,decide (V.bl b=V.bl b)=true:=λb=>decide_eq_true rfl;refine⟨_,rfl,_,_,_,_,rfl,r1.ty,AR _ d,_,rfl,_,_,_,_,rfl,r2.ty,AR _ d,rfl,?_⟩;refine⟨true,by rw[hb],iI ⟨_,rfl,_,rfl,?_⟩⟩;have fin:∀z:V,CG z z=true->CG z z=true/\Q (.bl (decide (z=z))) H:=λz O=>⟨O,by rw[decide_eq_true rfl];exact q H (aK.refl H)⟩;cases d with|a_=>cases(show v=V.a_ from r1);cases(show u=V.a_ from r2);exact fin _ rfl|bl b=>cases(show v=V.bl b from r1);cases(show u=V.bl b from r2);exact fin _ rfl|int i=>cases(show v=V.int i from r1);cases(show u=V.int i from r2);exact fin _ rfl|str x=>cases(show v=V.str x from r1.1);cases(show u=V.str x from r2.1);exact fin _ rfl|tup ds=>exact absurd rfl c
theorem j9(D:Df K mg "_law_alike" cW ["_law_told","_law_due"])(M:Mg mg t):∀n:Nat,bZ P w K mg bW "_law_alike" (n) ["_law_told","_law_due"] (i7 n)|0=>bZ.never D λvs H Q E⟨d,v,u,_,_,_,_,h,_⟩=>absurd h (kO _)|n+1=>pU D M (j9 D M n)
end K17
end
section
namespace L3
open PySem PySem.Spec PyProof.Rows L2 KM
theorem BY{prog:Program}{w:World}{A:Around}{E:Value->Shared->Prop}{s:Shared}{t b:Addr}{ws:List Value}{Q:Value->Shared->Prop}(ht:IsTup s.heap t (([]:List Value)).toArray)(hb:IsTup s.heap b ws.toArray)(h1:Q (.ref b) s):wpAny (model prog w) A (binaryOp .Add (.ref t) (.ref b)) Q E s:=by obtain⟨⟨cls,e,data,sl⟩,ho,hc,n,hd⟩:=id ht;obtain⟨⟨i,f,data2,h⟩,d,a,g,c⟩:=id hb;simp only at hc hd a c;subst hc hd a c;exact concat_meets ⟨_,ho,rfl⟩ ⟨_,d,rfl⟩ noFill_tuple_add seq_tuple_add PySem.F.slot_tuple_add PySem.F.entry_tuple_add (PySem.F.args_tuple_add_2 _ _) (tuple_addW0 t b _ ws.toArray n g e f sl h (by simp)) ⟨ho,d,h1⟩
noncomputable def KW(K:PySem.W.Frag):R2:=λx y H Q=>∃a b xs c,x= .ref a/\y= .ref b/\d8 K H a xs/\d8 K H b c/\xs.length+c.length<=sizeLine/\(xs=[]->Q (.ref b) H)/\(xs≠[]->c=[]->Q (.ref a) H)/\(xs≠[]->c≠[]->∀p,H p=none->Q (.ref p) (upd H p (.tup (xs++c))))
theorem EJ{X:Cx}:lj X (binaryOp .Add) (KW X.K):=by
 intro pins s σ H x y v u Q I d f h;obtain⟨a,b,xs,m,rfl,rfl,ha,hb,g,l,q1,q2⟩:=h;by_cases c:xs=[];·cases d;cases f;subst c;obtain⟨i,r1,j,_⟩:=I.tuple ha;obtain⟨n,r2,k,_⟩:=I.tuple hb;have e:i=[]:=r1.lD.mpr rfl;subst e;exact BY j k ⟨.ref b,H,I,rfl,l rfl⟩
 ·exact DJ pins s σ H _ _ v u Q I d f ⟨a,b,xs,m,rfl,rfl,ha,hb,c,g,q1 c,q2 c⟩
noncomputable def Me:R2:=λx y H Q=>∃a b xs c,x= .ref a/\y= .ref b/\H a=some (.tup xs)/\H b=some (.tup c)/\xs.length+c.length<=sizeLine/\∀p H',aK H H'->H' p=some (.tup (xs++c))->Q (.ref p) H'
theorem Dp{X:Cx}:lj X (binaryOp .Add) Me:=by
 intro pins s σ H x y v u Q I f g h;obtain⟨a,b,xs,i,rfl,rfl,ha,hb,d,q⟩:=h;refine EJ pins s σ H _ _ v u Q I f g ⟨a,b,xs,i,rfl,rfl,d8.of ha,d8.of hb,d,λe=>?_,λ_ e=>?_,λ_ _ p c=>q p _ (ah c _) aj⟩;·subst e;exact q b H (aK.refl H) hb
 ·subst e;exact q a H (aK.refl H) (by rw[List.append_nil];exact ha)
mutual theorem Rep.zo{H:Hp}{p:Addr}{xs:List V}{o:HO}(h:H p=some (.lst xs)):∀{d:D}{v:V},Rep H d v->Rep (upd H p o) d v| .a_,_,r=>r| .bl _,_,r=>r| .int _,_,r=>r| .str _,_,r=>r| .tup _,_,⟨a,vs,e,q,r⟩=>⟨a,vs,e,by rw[aI (F0 q h (by simp))];exact q,bb.zo h r⟩theorem bb.zo{H:Hp}{p:Addr}{xs:List V}{o:HO}(h:H p=some (.lst xs)):∀{ds:List D}{vs:List V},bb H ds vs->bb (upd H p o) ds vs|[],_,r=>r|_::_,_,⟨v,r,e,q,t⟩=>⟨v,r,e,Rep.zo h q,bb.zo h t⟩end
theorem yz{J:It}{p:Addr}{h:Hp}{g:TG}{t:TE}{b:L2.St}{C:Hp->Prop}(n:Nat)(f:Nat->D)(s:h p=none)(hn:n<=sizeLine)(z:∀i a,i<n->aK h a->J.go i a/\∀x d,J.rZ i a x d->∀(R:V->Hp->Prop),(∀v e,aK a e->Rep e (f i) v->R v e)->g x b d λo q=>t o q R)(hd:∀c a,aK h a->a p=some (.lst c)->bb a ((List.range n).map f) c->J.stop n a/\C a):∃W:Nat->Nat->List V->Hp->Prop,(∃m,W 0 m [] (upd h p (.lst [])))/\∀i m c a,W i m c a->(J.stop i a/\C a)\/(J.go i a/\∀x d,J.rZ i a x d->g x b d λo q=>vB o q λok r=>if ok=true then t o r λv e=>e p=some (.lst c)/\c.length<sizeLine/\∃j,j<m/\W (i+1) j (c++[v]) (upd e p (.lst (c++[v])))else∃j,j<m/\W (i+1) j c r):=by
 refine lE (Q:=λ_ H=>C H) n (λi c a=>bb a ((List.range i).map f) c/\a p=some (.lst c)/\aK h a) ⟨rfl,aj,ah s _⟩ ?_ ?_;·rintro i c a hi⟨l,h2,s2⟩;obtain⟨u,w⟩:=z i a hi s2;refine⟨u,λx d y=>?_⟩;simp only[vB,if_true];have hl:=l.length;rw[cT,mw]at hl;refine w x d y _ λv e k A=>⟨k _ _ h2,by lia,nx hi ⟨?_,aj,ip (s2.trans k) s⟩⟩;rw[List.range_succ,List.map_append];exact((l.mono k).zo (k _ _ h2)).append (bb.one (A.zo (k _ _ h2)))
 ·rintro c a⟨l,h2,s2⟩;exact hd c a s2 h2 l
end L3
end
section
namespace L3
open PySem PySem.Spec PyProof.Rows L2
end L3
end
section
namespace L3
open PySem PySem.Spec PyProof.Rows L2 KM
end L3
end
section
namespace K17
open PySem L2 L3 KM PyProof.Rows
seal L2.PE L2.PS L2.fY L2.PT L2.PW L2.PA L2.PG L2.wN L2.PI L2.PC L2.PO L2.vT L2.PK L3.vW
variable{P:Program}{w:World}{K:PySem.W.Frag}{mg:Str->Option Value}{base:Heap}{t:uY}
mutual noncomputable def Sq:D->List (List Nat)| .tup (.str x::ps)=>[]::(if bV x=true then[]else MC 0 ps)|_=>[]noncomputable def MC:Nat->List D->List (List Nat)|_,[]=>[]|i,d::ds=>(Sq d).map (i::·)++MC (i+1) ds end
theorem cN{a:D->Bool}{k:Bool}:∀{d:D},bf a k d=true->∃x ps,d= .tup (.str x::ps)| .tup (.str x::ps),_=>⟨x,ps,rfl⟩| .tup [],h=>by simp[bf]at h| .tup (.a_::_),h=>by simp[bf]at h| .tup (.bl _::_),h=>by simp[bf]at h| .tup (.int _::_),h=>by simp[bf]at h| .tup (.tup _::_),h=>by simp[bf]at h| .a_,h=>by simp[bf]at h| .bl _,h=>by simp[bf]at h| .int _,h=>by simp[bf]at h| .str _,h=>by simp[bf]at h
theorem xo{a:D->Bool}:∀{cs:List Nat}{ps:List D}{i:Nat}{p:D},eB a cs ps=true->(∀c∈cs,c=107\/c=116)->ps[i]?=some p->∃k,bf a k p=true
 |[],[],_,_,_,_,e=>by simp at e
 |[],_::_,_,_,h,_,_=>by simp[eB]at h
 |_::_,[],_,_,h,_,_=>by simp[eB]at h
 |c::cs,q::ps,0,p,h,hc,e=>by
  simp at e;subst e;rw[aw,cw]at h;have h1:=h.1;unfold cE at h1;rcases hc c cY with z|z;·rw[z,if_pos rfl]at h1;exact⟨true,h1⟩
  ·rw[z,if_neg (by decide),if_pos rfl]at h1;exact⟨false,h1⟩
 |c::cs,q::ps,i+1,p,h,hc,e=>by rw[aw,cw]at h;exact xo (i:=i) h.2 (λc b=>hc c (c_ _ b)) (by simpa using e)
theorem cR{k:Bool}{x:Str}{ps:List D}{i:Nat}{p:D}(h:bf av k (.tup (.str x::ps))=true)(e:(ak x ps)[i]?=some p):(∃k,bf av k p=true)/\depth p<depth (.tup (.str x::ps)):=by
 obtain⟨s,h1,h2,h3,h4,h5,h6,a,_⟩:=bT h;unfold ak at e;split at e;·simp at e
 ·rename_i nl;refine⟨xo h3 (a (by simpa using nl)) e,?_⟩;have :=jA e;simp only[depth,az];omega
theorem CZ{k:Bool}{x:Str}{ps:List D}(h:bf av k (.tup (.str x::ps))=true):(ak x ps).length<=4:=by
 obtain⟨s,h1,h2,h3,h4,h5,h6,a,_⟩:=bT h;unfold ak;split;·exact zQ11 _
 ·rw[<-h5];simpa using h4
structure Rt(d:D)(n:Nat):Prop where
 wf:∃k,bf av k d=true
 dp:depth d<n
 ct:(Sq d).length<=2000000
 WI:n<=60
theorem HS{a:D->Bool}{b d1:D}(c:bf a false b=true)(h1:bf a false d1=true):bf a false (.tup [.str "app",b,d1])=true:=by refine cF (w:="app") (s:="tt") (by decide+kernel) (by decide+kernel) ?_;rw[show(Str.ofString "tt").cps.toList=[116,116]by decide+kernel,aw,aw];simp[cE,eB,c,h1]
theorem Cd{a:D->Bool}{b d1:D}(c:bf a true b=true)(h1:bf a false d1=true):bf a false (.tup [.str "fun",b,d1])=true:=by refine cF (w:="fun") (s:="kt") (by decide+kernel) (by decide+kernel) ?_;rw[show(Str.ofString "kt").cps.toList=[107,116]by decide+kernel,aw,aw];simp[cE,eB,c,h1]
theorem qT{a:D->Bool}{b d1 d2:D}(c:bf a true b=true)(h1:bf a false d1=true)(h2:bf a false d2=true):bf a true (.tup [.str "same",b,d1,d2])=true:=by refine cF (w:="same") (s:="ktt") (by decide+kernel) (by decide+kernel) ?_;rw[show(Str.ofString "ktt").cps.toList=[107,116,116]by decide+kernel,aw,aw,aw];simp[cE,eB,c,h1,h2]
theorem Hk{a:D->Bool}{b d1 d2 c:D}(d:bf a true b=true)(h1:bf a false d1=true)(h2:bf a false d2=true)(h3:bf a false c=true):bf a false (.tup [.str "rec",b,d1,d2,c])=true:=by refine cF (w:="rec") (s:="kttt") (by decide+kernel) (by decide+kernel) ?_;rw[show(Str.ofString "kttt").cps.toList=[107,116,116,116]by decide+kernel,aw,aw,aw,aw];simp[cE,eB,d,h1,h2,h3]
theorem Cp{a:D->Bool}{b d1 d2:D}(c:bf a true b=true)(h1:bf a false d1=true)(h2:bf a false d2=true):bf a false (.tup [.str "carry",b,d1,d2])=true:=by refine cF (w:="carry") (s:="ktt") (by decide+kernel) (by decide+kernel) ?_;rw[show(Str.ofString "ktt").cps.toList=[107,116,116]by decide+kernel,aw,aw,aw];simp[cE,eB,c,h1,h2]
theorem Iu{a:D->Bool}{b d1:D}(c:bf a true b=true)(h1:bf a true d1=true):bf a true (.tup [.str "all",b,d1])=true:=by refine cF (w:="all") (s:="kk") (by decide+kernel) (by decide+kernel) ?_;rw[show(Str.ofString "kk").cps.toList=[107,107]by decide+kernel,aw,aw];simp[cE,eB,c,h1]
theorem DI{a:D->Bool}{b d1:D}(c:bf a true b=true)(h1:bf a true d1=true):bf a true (.tup [.str "some",b,d1])=true:=by refine cF (w:="some") (s:="kk") (by decide+kernel) (by decide+kernel) ?_;rw[show(Str.ofString "kk").cps.toList=[107,107]by decide+kernel,aw,aw];simp[cE,eB,c,h1]
theorem Ck{b:D->Bool}{a:D}(c:bf b false a=true):bf b false (.tup [.str "first",a])=true:=by refine cF (w:="first") (s:="t") (by decide+kernel) (by decide+kernel) ?_;rw[show(Str.ofString "t").cps.toList=[116]by decide+kernel,aw];simp[cE,eB,c]
theorem B_{a:D->Bool}{b d1:D}(c:bf a true b=true)(h1:bf a false d1=true):bf a false (.tup [.str "never",b,d1])=true:=by refine cF (w:="never") (s:="kt") (by decide+kernel) (by decide+kernel) ?_;rw[show(Str.ofString "kt").cps.toList=[107,116]by decide+kernel,aw,aw];simp[cE,eB,c,h1]
theorem gY{a:D->Bool}:bf a true (.tup [.str "nat"])=true:=by refine cF (w:="nat") (s:="") (by decide+kernel) (by decide+kernel) ?_;rw[show(Str.ofString "").cps.toList=[]by decide+kernel];simp[cE,eB]
theorem xZ{a:D->Bool}:bf a false (.tup [.str "zero"])=true:=by refine cF (w:="zero") (s:="") (by decide+kernel) (by decide+kernel) ?_;rw[show(Str.ofString "").cps.toList=[]by decide+kernel];simp[cE,eB]
theorem br{H:Hp}{p:Addr}{ds:List D}{vs:List V}(a:H p=none)(r:bb H ds vs):Rep (upd H p (.tup vs)) (.tup ds) (.ref p):=⟨p,vs,rfl,aj,r.mono (ah a _)⟩
theorem rs{H:Hp}{d:D}{v:V}{ds:List D}{vs:List V}(r:Rep H d v)(t:bb H ds vs):bb H (d::ds) (v::vs):=⟨v,vs,rfl,r,t⟩
theorem r0{H:Hp}:bb H [] []:=rfl
theorem oj{H:Hp}{x:Str}(h:x.length<=1000:=by decide):Rep H (.str x) (.str x):=⟨rfl,h⟩
theorem ri{H:Hp}{i:Int}:Rep H (.int i) (.int i):=rfl
structure Th(d:D)(dp kn:Nat):Prop where
 wf:bf av false d=true
 dp:depth d<=dp
 kn:aB d<=kn
def Az:Sp:=λvs H Q _=>∃c:Int,vs=[.int c]/\∀(d:D)(v:V)(H':Hp),aK H H'->Rep H' d v->Th d 45 2000->Q v H'
def Wf(d:D):Prop:=∃k,bf av k d=true
theorem vY{d:D}(h:Wf d):∃x ps k,d= .tup (.str x::ps)/\bf av k d=true/\ps.length<=10:=by obtain⟨k,h⟩:=h;obtain⟨x,ps,rfl⟩:=cN h;obtain⟨a,_,_,_,h4,h5,_⟩:=bT h;refine⟨x,ps,k,rfl,h,?_⟩;rw[<-h5];exact cu (by simpa using h4) (by decide)
noncomputable def mV:List V:=[.int 1, .int 1, .int 2, .int 3, .int 2, .int 3]
def E8(c:Int)(a:Addr)(H:Hp)(i:Nat)(f:L2.St)(H':Hp):Prop:=∃(d:D)(u:V)(g:Int)(kv e b:Option V),f=[some (.int c),some (.ref a),some u,some (.int g),kv,e,b]/\Rep H' d u/\Rep H' (.tup [.str "nat"]) (.ref a)/\bf av false d=true/\(depth d:Int)<=g/\g<=39/\1<=g/\aB d<=1+10*i/\aK H H'
section
variable{d sd:D}{i:Int}
theorem Be(h:1<=depth d)(a:depth sd<=1):depth (.tup [.str "fun", .tup [.str "nat"],d])<=depth d+1:=EM (hV D5 (hV (Ka h) (hV (zQ04 _) DB)))
theorem ID(h:1<=depth d)(a:depth sd<=1):depth (.tup [.str "app",sd,d])<=depth d+1:=EM (hV D5 (hV (cu a h) (hV (zQ04 _) DB)))
theorem Dj(h:1<=depth d)(a:depth sd<=1):depth (.tup [.str "same", .tup [.str "nat"],d,sd])<=depth d+1:=EM (hV D5 (hV (Ka h) (hV (zQ04 _) (hV (cu a h) DB))))
theorem AY(h:1<=depth d)(a:depth sd<=1):depth (.tup [.str "same", .tup [.str "nat"],sd,d])<=depth d+1:=EM (hV D5 (hV (Ka h) (hV (cu a h) (hV (zQ04 _) DB))))
theorem Jy(h:1<=depth d)(a:depth sd<=1):depth (.tup [.str "rec", .tup [.str "same", .tup [.str "nat"],d,sd], .tup [.str "zero"],sd, .tup [.str "var", .int i]])<=depth d+2:=EM (n:=depth d+1) (hV D5 (hV (Dj h a) (hV (Ka (by omega)) (hV (by omega) (hV (VD (by omega)) DB)))))
theorem Lv{x:Str}(h:1<=depth d)(a:depth sd<=1):depth (.tup [.str x, .tup [.str "nat"], .tup [.str "same", .tup [.str "nat"],sd,d]])<=depth d+2:=EM (n:=depth d+1) (hV D5 (hV (Ka (by omega)) (hV (AY h a) DB)))
theorem AA(h:1<=depth d)(a:depth sd<=1):depth (.tup [.str "carry", .tup [.str "all", .tup [.str "nat"], .tup [.str "same", .tup [.str "nat"],sd,d]],sd, .tup [.str "zero"]])<=depth d+3:=EM (n:=depth d+2) (hV D5 (hV (Lv h a) (hV (by omega) (hV (Ka (by omega)) DB))))
theorem AE(h:1<=depth d)(a:depth sd<=1):depth (.tup [.str "first", .tup [.str "fun", .tup [.str "nat"],d]])<=depth d+2:=EM (n:=depth d+1) (hV D5 (hV (Be h a) DB))
theorem Cq(h:1<=depth d)(a:depth sd<=1):depth (.tup [.str "never", .tup [.str "some", .tup [.str "nat"], .tup [.str "same", .tup [.str "nat"],sd,d]],sd])<=depth d+3:=EM (n:=depth d+2) (hV D5 (hV (Lv h a) (hV (by omega) DB)))
end
theorem aV:aP ["_law_cell","_law_nat","_law_thing","_law_deep_here","_law_k","_law_way","_law_side"] ["_law_cell"] (ao fz):=⟨rfl,rfl,rfl,by decide+kernel,rfl,by decide+kernel,by decide+kernel⟩
theorem vR(D:Df K mg "_law_deep" fz ["_law_cell"])(M:Mg mg t):bZ P w K mg bW "_law_deep" (1) ["_law_cell"] Az:=by
 refine D.ok aV (λvs H Q E h=>?_) (λbase f cS A outer s H vs Q E hr h=>?_);·obtain⟨c,rfl,_⟩:=h;rfl
 obtain⟨c,rfl,q⟩:=h;refine⟨_,(ar (aM (i:=1) aV.nd rfl (eN rfl) (bA (aa ai af))) (ar (aM (i:=2) aV.nd rfl (eN rfl) (bA (aa ai (aa (aD bU (pv 0) ag) af)))) (ar (aM (i:=3) aV.nd rfl (eN rfl) ag) (ar (mJ PassesOwn.never rfl (gE rfl M.lF (aa ag af)) (cM (i:=4) aV.nd rfl (eN rfl)) (ar (aM (i:=5) aV.nd rfl (eN rfl) (aD bU (aD b9 (aD b9 (aD cB (pv 0) ag) (aD Ax (pv 4) (pv 4))) (aD cB (pv 4) ag)) ag)) (ar (aM (i:=6) aV.nd rfl (eN rfl) (bA (aa ai (aa (aD bU (aD b9 (pv 0) (pv 4)) ag) af)))) (aq (bH (aN B0 (pv 3) (aD b9 ag (aD bU (aD cB (pv 0) ag) ag)) (aS _)) (ar (aM (i:=3) aV.nd rfl (eN rfl) (aD b9 (pv 3) (bY dy (cD (aa ag (aa ag (aa ag (aa ag (aa ag (aa ag af))))))) (pv 5) (λ_ _=>rfl)))) (aq (bH (aN ck (pv 5) ag (aS _)) (aq (aM (i:=2) aV.nd rfl (eN rfl) (bA (aa ai (aa (pv 1) (aa (pv 2) af)))))) (aq (bH (aN ck (pv 5) ag (aS _)) (aq (aM (i:=2) aV.nd rfl (eN rfl) (bA (aa ai (aa (pv 6) (aa (pv 2) af)))))) (aq (bH (aN ck (pv 5) ag (aS _)) (aq (aM (i:=2) aV.nd rfl (eN rfl) (bA (aa ai (aa (bA (aa ai (aa (pv 1) (aa (pv 2) (aa (pv 6) af))))) (aa (bA (aa ai af)) (aa (pv 6) (aa (bA (aa ai (aa (pv 4) af))) af)))))))) (aq (bH (aN ck (pv 5) ag (aS _)) (aq (aM (i:=2) aV.nd rfl (eN rfl) (bA (aa ai (aa (bA (aa ai (aa (pv 1) (aa (bA (aa ai (aa (pv 1) (aa (pv 6) (aa (pv 2) af))))) af)))) (aa (pv 6) (aa (bA (aa ai af)) af))))))) (aq (bH (aN ck (pv 5) ag (aS _)) (aq (aM (i:=2) aV.nd rfl (eN rfl) (bA (aa ai (aa (bA (aa ai (aa (pv 1) (aa (pv 2) af)))) af))))) (aq (aM (i:=2) aV.nd rfl (eN rfl) (bA (aa ai (aa (bA (aa ai (aa (pv 1) (aa (bA (aa ai (aa (pv 1) (aa (pv 6) (aa (pv 2) af))))) af)))) (aa (pv 6) af))))))))))))))))) aY))))) (aq (aF (pv 2))))))),?_⟩;try dsimp only[r_,gG]
 refine PN ?_;intro _ _ _ _ _;refine⟨(eZ rfl),λb zS=>⟨_,rfl,_,_,rfl,rfl,(by show(0:Int)<45;decide),(eZ rfl),λN zR=>?_⟩⟩;have s0:=ah zS (.tup [V.str "nat"]);have n0:Rep (upd H b (.tup [V.str "nat"])) (.tup [.str "nat"]) (.ref b):=br zS (rs oj r0);have s1:=ah zR (.tup [V.str "var", .int (c%45)]);have r1:Rep (upd (upd H b (.tup [V.str "nat"])) N (.tup [V.str "var", .int (c%45)])) (.tup [.str "var", .int (c%45)]) (.ref N):=br zR (rs oj (rs ri r0));have n1:=n0.mono s1;have SU:=s0.trans s1;generalize upd (upd H b (.tup [V.str "nat"])) N (.tup [V.str "var", .int (c%45)])=H1 at SU r1 n1⊢;have c0:=Int.emod_nonneg c (show(45:Int)≠0 by decide);have c9:=Int.emod_lt_of_pos c (show(0:Int)<45 by decide);refine⟨_,rfl,by decide,by decide,?_⟩;refine uS 38 (E8 c b H) ?_ ?_ ?_;·exact⟨_,_,1,none,none,none,rfl,r1,n1,qh c0 (by omega),by simp[depth,az],by decide,by decide,by simp[aB,aC],SU⟩
 ·rintro i aO Ww hi⟨d,u,g,kv,wv,sv,rfl,r2,L,w2,d2,Z,Y,k2,s2⟩;refine⟨hi,?_⟩;rintro x' B⟨rfl,rfl⟩;have e0:(0:Int)+(i:Int)=((i:Nat):Int):=by omega
  rw[e0];refine⟨_,rfl,_,_,rfl,rfl,⟨by decide,by decide⟩,_,rfl,_,rfl,_,_,rfl,rfl, .inl ⟨by omega,by omega⟩,_,_,rfl,rfl,_,rfl,_,_,rfl,rfl,⟨by decide,by decide⟩,_,_,rfl,rfl,_,_,rfl,rfl,(by show(0:Int)<6;decide),?_⟩;obtain⟨j,v,X,hj,hv,y_⟩:=CN (xs:=mV) (m:=6) (c/7+(i:Int)*(i:Int)+(i:Int)/3) rfl (by decide);show jY 5 (V.int ((c/7+(i:Int)*(i:Int)+(i:Int)/3)%6)) _ _ _;rw[X];refine⟨_,rfl,_,rfl,_,_,rfl,rfl,_,_,rfl,rfl,(by show(0:Int)<30;decide),(eZ rfl),λk Gf=>?_⟩;have f0:=Int.emod_nonneg (c+(i:Int)) (show(30:Int)≠0 by decide);have f9:=Int.emod_lt_of_pos (c+(i:Int)) (show(0:Int)<30 by decide);have g0:=Int.emod_nonneg (c/45) (show(18:Int)≠0 by decide);have g9:=Int.emod_lt_of_pos (c/45) (show(0:Int)<18 by decide);have G:=ah Gf (.tup [V.str "var", .int ((c+(i:Int))%30)]);have T:Rep (upd B k (.tup [V.str "var", .int ((c+(i:Int))%30)])) (.tup [.str "var", .int ((c+(i:Int))%30)]) (.ref k):=br Gf (rs oj (rs ri r0));have o:bf av false (.tup [.str "var", .int ((c+(i:Int))%30)])=true:=qh f0 (by omega);have dv:depth (.tup [.str "var", .int ((c+(i:Int))%30)])=1:=by simp[depth,az]
  have VO:aB (.tup [.str "var", .int ((c+(i:Int))%30)])=1:=by simp[aB,aC]
  have R:=r2.mono G;have F:=L.mono G;have U:=s2.trans G;show jY 6 (V.ref k) _ (upd B k (.tup [V.str "var", .int ((c+(i:Int))%30)])) _;generalize upd B k (.tup [V.str "var", .int ((c+(i:Int))%30)])=J at U T R F⊢;generalize KM.D.tup [.str "var", .int ((c+(i:Int))%30)]=sd at T o dv VO;clear G s2 r2 L;have y:1<=depth d:=by obtain⟨x,ps,rfl⟩:=cN w2;simp only[depth];omega
  refine⟨_,rfl,_,rfl,_,_,rfl,rfl,⟨by decide,by decide⟩,_,_,rfl,rfl,(by show(0:Int)<18;decide),_,_,rfl,rfl,_,_,rfl,rfl,_,rfl,?_⟩;refine dg (λW=>?_) (λ_=>⟨d,u,g,_,_,_,rfl,R,F,w2,d2,Z,Y,by omega,U⟩);have W:g<20+c/45%18:=of_decide_eq_true W;have z:depth sd<=1:=by omega
  have fin:∀(m:Nat)(d':KM.D)(I:V)(H':Hp),m<=3->Rep H' d' I->bf av false d'=true->depth d'<=depth d+m->aB d'<=aB d+10->aK J H'->E8 c b H (i+1) [some (.int c),some (.ref b),some I,some (.int (g+(m:Nat))),some (.int (i:Nat)),some (.int (j:Nat)),some (.ref k)] H':=λm d' I H' hm r' w' h1 h2 s'=>⟨d',I,g+(m:Nat),_,_,_,rfl,r',F.mono s',w',by omega,by omega,by omega,by omega,U.trans s'⟩;refine⟨_,rfl,(eZ rfl),λO P8=>⟨_,rfl,O,mV,_,v,rfl,rfl,bO.of aj,(by rw[<-X];exact y_),?_⟩⟩;have e:=ah P8 (.lst mV);show DG _ _ _ (upd J O (.lst mV)) _;have n:=T.mono e;have r:=R.mono e;have l:=F.mono e;generalize upd J O (.lst mV)=H4 at e n r l⊢;rcases j with _|_|_|_|_|_|j;·cases hv;refine⟨_,_,rfl,rfl,_,rfl,rfl,_,rfl,iI ⟨_,rfl,_,rfl,(eZ rfl),λp a=>?_⟩⟩;exact fin 1 (.tup [.str "fun", .tup [.str "nat"],d]) _ _ (by decide) (br a (rs oj (rs l (rs r r0)))) (Cd gY w2) (Be (sd:=sd) y z) (by simp only[aB,aC];omega) (e.trans (ah a _))
  ·cases hv;refine⟨_,_,rfl,rfl,_,rfl,rfl,_,rfl,dZ ⟨_,rfl,rfl,_,rfl,iI ⟨_,rfl,_,rfl,(eZ rfl),λp a=>?_⟩⟩⟩;exact fin 1 (.tup [.str "app",sd,d]) _ _ (by decide) (br a (rs oj (rs n (rs r r0)))) (HS o w2) (ID y z) (by simp only[aB,aC];omega) (e.trans (ah a _))
  ·cases hv;refine⟨_,_,rfl,rfl,_,rfl,rfl,_,rfl,dZ ⟨_,rfl,rfl,_,rfl,dZ ⟨_,rfl,rfl,_,rfl,iI ⟨_,rfl,_,rfl,_,rfl,(eZ rfl),λC ha=>⟨(eZ rfl),λpb hb=>⟨_,rfl,_,rfl,(eZ rfl),λpc hc=>⟨(eZ rfl),λp a=>?_⟩⟩⟩⟩⟩⟩⟩;have sa:=ah ha (.tup [V.str "same", .ref b,u, .ref k]);have ra:=br ha (rs (oj (x:="same")) (rs l (rs r (rs n r0))));have sb:=ah hb (.tup [V.str "zero"]);have rb:=br hb (rs (oj (x:="zero")) r0);have sc:=ah hc (.tup [V.str "var", .int ((i:Nat):Int)]);have S:=br hc (rs (oj (x:="var")) (rs (ri (i:=((i:Nat):Int))) r0));exact fin 2 (.tup [.str "rec", .tup [.str "same", .tup [.str "nat"],d,sd], .tup [.str "zero"],sd, .tup [.str "var", .int ((i:Nat):Int)]]) _ _ (by decide) (br a (rs oj (rs (ra.mono (sb.trans sc)) (rs (rb.mono sc) (rs (n.mono (sa.trans (sb.trans sc))) (rs S r0)))))) (Hk (qT gY w2 o) xZ o (qh (by omega) (by omega))) (Jy y z) (by simp only[aB,aC];omega) (e.trans (sa.trans (sb.trans (sc.trans (ah a _)))))
  ·cases hv;refine⟨_,_,rfl,rfl,_,rfl,rfl,_,rfl,dZ ⟨_,rfl,rfl,_,rfl,dZ ⟨_,rfl,rfl,_,rfl,dZ ⟨_,rfl,rfl,_,rfl,iI ⟨_,rfl,_,rfl,_,rfl,_,rfl,(eZ rfl),λC ha=>⟨(eZ rfl),λpb hb=>⟨_,rfl,(eZ rfl),λpc hc=>⟨(eZ rfl),λp a=>?_⟩⟩⟩⟩⟩⟩⟩⟩;have sa:=ah ha (.tup [V.str "same", .ref b, .ref k,u]);have ra:=br ha (rs (oj (x:="same")) (rs l (rs n (rs r r0))));have sb:=ah hb (.tup [V.str "all", .ref b, .ref C]);have rb:=br hb (rs (oj (x:="all")) (rs (l.mono sa) (rs ra r0)));have sc:=ah hc (.tup [V.str "zero"]);have S:=br hc (rs (oj (x:="zero")) r0);exact fin 3 (.tup [.str "carry", .tup [.str "all", .tup [.str "nat"], .tup [.str "same", .tup [.str "nat"],sd,d]],sd, .tup [.str "zero"]]) _ _ (by decide) (br a (rs oj (rs (rb.mono sc) (rs (n.mono (sa.trans (sb.trans sc))) (rs S r0))))) (Cp (Iu gY (qT gY o w2)) o xZ) (AA y z) (by simp only[aB,aC];omega) (e.trans (sa.trans (sb.trans (sc.trans (ah a _)))))
  ·cases hv;refine⟨_,_,rfl,rfl,_,rfl,rfl,_,rfl,dZ ⟨_,rfl,rfl,_,rfl,dZ ⟨_,rfl,rfl,_,rfl,dZ ⟨_,rfl,rfl,_,rfl,dZ ⟨_,rfl,rfl,_,rfl,iI ⟨_,rfl,_,rfl,(eZ rfl),λC ha=>⟨(eZ rfl),λp a=>?_⟩⟩⟩⟩⟩⟩⟩;have sa:=ah ha (.tup [V.str "fun", .ref b,u]);have ra:=br ha (rs (oj (x:="fun")) (rs l (rs r r0)));exact fin 2 (.tup [.str "first", .tup [.str "fun", .tup [.str "nat"],d]]) _ _ (by decide) (br a (rs oj (rs ra r0))) (Ck (Cd gY w2)) (AE (sd:=sd) y z) (by simp only[aB,aC];omega) (e.trans (sa.trans (ah a _)))
  ·cases hv;refine⟨_,_,rfl,rfl,_,rfl,rfl,_,rfl,dZ ⟨_,rfl,rfl,_,rfl,dZ ⟨_,rfl,rfl,_,rfl,dZ ⟨_,rfl,rfl,_,rfl,dZ ⟨_,rfl,rfl,_,rfl,dZ ⟨_,rfl,_,rfl,_,rfl,_,rfl,(eZ rfl),λC ha=>⟨(eZ rfl),λpb hb=>⟨_,rfl,(eZ rfl),λp a=>?_⟩⟩⟩⟩⟩⟩⟩⟩;have sa:=ah ha (.tup [V.str "same", .ref b, .ref k,u]);have ra:=br ha (rs (oj (x:="same")) (rs l (rs n (rs r r0))));have sb:=ah hb (.tup [V.str "some", .ref b, .ref C]);have rb:=br hb (rs (oj (x:="some")) (rs (l.mono sa) (rs ra r0)));exact fin 3 (.tup [.str "never", .tup [.str "some", .tup [.str "nat"], .tup [.str "same", .tup [.str "nat"],sd,d]],sd]) _ _ (by decide) (br a (rs oj (rs rb (rs (n.mono (sa.trans sb)) r0)))) (B_ (DI gY (qT gY o w2)) o) (Cq y z) (by simp only[aB,aC];omega) (e.trans (sa.trans (sb.trans (ah a _))))
  ·exact absurd hj (by show¬(j+6<6);omega)
 ·rintro aO B⟨d,u,g,kv,wv,sv,rfl,r2,L,w2,d2,Z,Y,k2,s2⟩;exact⟨zQ04 _,_,rfl,q d u B s2 r2 ⟨w2,by omega,by omega⟩⟩
end K17
end
section
namespace K17
open PySem L2 L3 KM
seal L2.PE L2.PS L2.fY L2.PT L2.PW L2.PA L2.PG L2.wN L2.PI L2.PC L2.PO L2.vT L2.PK L3.vW
variable{P:Program}{w:World}{K:PySem.W.Frag}{mg:Str->Option Value}{base:Heap}{t:uY}
theorem sizeLine_eq:sizeLine=16777216:=by decide
def Vw(d:D):Prop:=d= .a_\/d= .tup []\/∃x,d= .str x
mutual noncomputable def Al:D->Prop| .tup []=>True| .tup (h::ps)=>Vw h/\NR ps/\ps.length<=20|_=>True noncomputable def NR:List D->Prop|[]=>True|p::ps=>Al p/\NR ps end
mutual theorem AH:∀{k:Bool}{d:D},bf av k d=true->Al d
 |k, .tup (.str x::ps),h=>by
  obtain⟨s,e1,e2,e3,e4,e5,_⟩:=bT h;refine⟨.inr (.inr ⟨x,rfl⟩),Cn e3,?_⟩;have :s.cps.toList.length=s.cps.size:=by simp
  omega
 |k, .tup [],h=>by simp[bf]at h
 |k, .tup (.a_::_),h=>by simp[bf]at h
 |k, .tup (.bl _::_),h=>by simp[bf]at h
 |k, .tup (.int _::_),h=>by simp[bf]at h
 |k, .tup (.tup _::_),h=>by simp[bf]at h
 |k, .a_,h=>by simp[bf]at h
 |k, .bl _,h=>by simp[bf]at h
 |k, .int _,h=>by simp[bf]at h
 |k, .str _,h=>by simp[bf]at h theorem Cn:∀{cs:List Nat}{ps:List D},eB av cs ps=true->NR ps
 |[],[],_=>trivial
 |[],_::_,h=>by simp[eB]at h
 |_::_,[],h=>by simp[eB]at h
 |c::cs,p::ps,h=>by
  rw[aw,cw]at h;refine⟨?_,Cn h.2⟩;have h:=h.1;unfold cE at h;by_cases c1:c=107;·rw[if_pos c1]at h;exact AH h
  ·rw[if_neg c1]at h;by_cases c2:c=116;·rw[if_pos c2]at h;exact AH h
   ·rw[if_neg c2]at h;cases p<;>first|trivial|(simp[fI,av]at h;done)end
theorem AB:∀{ds:List D},Al (.tup ds)->ds.length<=21|[],_=>by simp|_::ps,h=>by have :=h.2.2;simp;omega
theorem wy:∀{ps:List D}{p:D},NR ps->p∈ps->Al p
 |[],_,_,e=>by simp at e
 |q::ps,p,h,e=>by
  rcases List.mem_cons.mp e with rfl|e;·exact h.1
  ·exact wy h.2 e
theorem KO:∀{d:D},Al d->∀x∈tk d,Al x
 | .tup [],_,x,a=>by simp[tk]at a
 | .tup (h::ps),ok,x,a=>by
  have hm:x∈h::ps:=(List.mem_filter.mp a).1;rcases List.mem_cons.mp hm with rfl|hm;·rcases ok.1 with rfl|rfl|⟨y,rfl⟩<;>simp[Al]
  ·exact wy ok.2.1 hm
 | .a_,_,x,a=>by simp[tk]at a
 | .bl _,_,x,a=>by simp[tk]at a
 | .int _,_,x,a=>by simp[tk]at a
 | .str _,_,x,a=>by simp[tk]at a
theorem Bd:∀(n:Nat)(l:List D),(∀x∈l,Al x)->∀x∈lv n l,Al x|0,_,h=>h|n+1,l,h=>Bd n _ λx a=>by obtain⟨d,hd,a⟩:=List.mem_flatMap.mp a;exact KO (h d hd) x a
noncomputable def gP(d:D):Bool:=!(decide (aB d<=600)&&decide (depth d<=40))
def CV:Sp:=λvs H Q _=>∃ds v,vs=[v]/\Rep H (.tup ds) v/\Al (.tup ds)/\0<=aB (.tup ds)/\∀H',aK H H'->Q (.bl (gP (.tup ds))) H'
noncomputable def gp(ds:List D)(vs:List V)(j:Nat):Option V:=if isTup ((ds[j]?).getD .a_)then vs[j]? else none
theorem nV{H:Hp}:∀{ds:List D}{vs:List V},bb H ds vs->bb H (ds.filter isTup) ((List.range vs.length).filterMap (gp ds vs))
 |[],_,r=>by have r:_=[]:=r;subst r;exact rfl
 |d::ds,_,⟨v,a,e,q,t⟩=>by
  subst e;have c:=nV t;rw[gH,List.range_succ_eq_map,List.filterMap_cons,List.filterMap_map];have e:(gp (d::ds) (v::a)∘Nat.succ)=gp ds a:=by funext j;simp[gp]
  rw[e];by_cases hd:isTup d=true
  ·rw[List.filter_cons_of_pos hd];have b:gp (d::ds) (v::a) 0=some v:=by simp[gp,hd]
   simp only[b];exact⟨v,_,rfl,q,c⟩
  ·rw[List.filter_cons_of_neg hd];have b:gp (d::ds) (v::a) 0=none:=by simp[gp,hd]
   simp only[b];exact c
theorem iA(ds:List D):∀x∈[D.tup ds],isTup x=true:=λx a=>by rw[List.mem_singleton.mp a];rfl
theorem jw(ds:List D):aC [D.tup ds]=aB (.tup ds):=by simp[aC]
theorem ym(ds:List D):az [D.tup ds]=depth (.tup ds):=by simp[az]
theorem G_(i:Nat)(ds:List D):(lv i [D.tup ds]).length<=aB (.tup ds):=by have h:=mT (i+1) [D.tup ds] (iA ds);rw[jw]at h;simp only[eA]at h;omega
theorem nj(l:List D)(j:Nat):((l.take j).flatMap tk).length<=(l.flatMap tk).length:=by
 have e:l.flatMap tk=(l.take j).flatMap tk++(l.drop j).flatMap tk:=by rw[<-List.flatMap_append,List.take_append_drop]
 rw[e,fK];omega
theorem t9{L:Nat}:∀(l:List D),(∀d∈l,(tk d).length<=L)->(l.flatMap tk).length<=l.length*L|[],_=>by simp|d::l,h=>by rw[List.flatMap_cons,fK,gH,Nat.add_mul,Nat.one_mul];have :=t9 l λx a=>h x (c_ _ a);have :=h d cY;omega
theorem Iq{d:D}(h:Al d):(tk d).length<=21:=by cases d with|tup es=>exact cu (List.length_filter_le _ _) (AB h)|_=>simp[tk]
theorem A2{ds:List D}{i:Nat}(h:600<eA i [D.tup ds]):gP (.tup ds)=true:=by have :=mT i [D.tup ds] (iA ds);rw[jw]at this;unfold gP;rw[decide_eq_false (by omega)];rfl
theorem Bp{ds:List D}(h:eA 40 [D.tup ds]<=600):gP (.tup ds)=decide (0<(lv 40 [D.tup ds]).length):=by
 have e:=yH [D.tup ds] (iA ds);rw[jw,ym]at e;unfold gP;by_cases c:lv 40 [D.tup ds]=[];·obtain⟨a,b⟩:=e.mp ⟨h,c⟩;rw[decide_eq_true a,decide_eq_true b,c];rfl
 ·have :¬(aB (.tup ds)<=600/\depth (.tup ds)<=40):=λz=>c (e.mpr z).2;have hl:0<(lv 40 [D.tup ds]).length:=List.length_pos_iff.mpr c;rw[decide_eq_true hl];by_cases a:aB (.tup ds)<=600;·rw[decide_eq_false λb=>this ⟨a,b⟩,Bool.and_false];rfl
  ·rw[decide_eq_false a];rfl
theorem cn:aP ["value","level","knots","depth","below","knot"] ["value"] (ao eT):=⟨rfl,rfl,rfl,by decide+kernel,rfl,by decide+kernel,by decide+kernel⟩
theorem yU(D:Df K mg "is_vast" eT ["value"])(M:Mg mg t):bZ P w K mg bW "is_vast" (1) ["value"] CV:=by
 refine D.ok cn (λvs H Q E h=>?_) (λbase f cS A outer s H vs Q E hr h=>?_);·obtain⟨d,v,rfl,_⟩:=h;rfl
 obtain⟨ds,v,rfl,r,ok,hk,q⟩:=h;refine⟨_,(ar (aM (i:=1) cn.nd rfl (eN rfl) (cD (aa (pv 0) af))) (ar (aM (i:=2) cn.nd rfl (eN rfl) ag) (ar (mJ PassesOwn.never rfl (gE rfl M.lF (aa (qR M.g_MOST_DEEP rfl) af)) (cM (i:=3) cn.nd rfl (eN rfl)) (ar (GG (i:=2) cn.nd rfl (eN rfl) (bK bB rfl M.iz gk (aa (pv 1) af)) IE) (ar (bH (aN v8 (pv 2) (qR M.g_MOST_KNOTS rfl) (aS _)) (aq (aF nX)) aY) (ar (aM (i:=4) cn.nd rfl (eN rfl) (cD af)) (ar (mJ PassesOwn.never rfl (xQ (pv 1)) (cM (i:=5) cn.nd rfl (eN rfl)) (aq (qd (A5 PySem.F.plainAttrs_list PySem.F.slot_list_extend PySem.F.type_list_extend nQ (pv 4) (aa (ll (N':=["part"]) (own:=1) (fr:=[]) rfl (lU (N:=["value","level","knots","depth","below","knot"]) (sc:=ao eT) rfl rfl rfl (by decide+kernel)) (Ij (pv 5)) (iq (by decide)) (λ_ _ _=>(cM (i:=0) (show List.Nodup (["part"]:List Str)by decide+kernel) rfl (Or.inl rfl))) (λ_ _ _=>(vS (gb (bK (qS (K:=K)) rfl M.de cJ (aa (pv 0) (aa (ug M.i_ gw rfl) af)))))) (λ_ _ _=>(pv 0))) af))))) (aq (aM (i:=1) cn.nd rfl (eN rfl) (pv 4)))))))) (aq (aF (iG v8 (bK bB rfl M.iz gk (aa (pv 1) af)) ag (aS _))))))),?_⟩;try dsimp only[r_,gG]
 refine M3 ?_;intro _ _ _ _;refine⟨_,rfl,(eZ rfl),λq1 DK=>?_⟩;have e1:(upd H q1 (.lst [v])) q1=some (.lst [v]):=aj;have s1:aK H (upd H q1 (.lst [v])):=ah DK _;refine⟨40,rfl,by decide,by decide,yr (n:=40) (λi B H'=>∃(q:Addr)(us:List V)(O G g:Option V),B=[some v,some (.ref q),some (.int (eA i [KM.D.tup ds])),O,G,g]/\H' q=some (.lst us)/\bb H' (lv i [KM.D.tup ds]) us/\eA i [KM.D.tup ds]<=600/\aK H H') ?_ ?_ ?_⟩;·exact⟨q1,[v],none,none,none,rfl,e1,bb.one (r.mono s1),by simp[eA],s1⟩
 ·rintro i B l hi⟨q2,us,O,G,g,rfl,C,I,R7,s2⟩;have WN:=I.length;have lvl:=G_ i ds;refine⟨_,rfl,_,rfl,q2,us,rfl, .inl (bO.of C),_,_,rfl,rfl,?_⟩;have eu:((eA i [KM.D.tup ds]:Nat):Int)+((us.length:Nat):Int)=((eA (i+1) [KM.D.tup ds]:Nat):Int):=by simp only[eA];omega
  show cy _ _ _ [some v,some (.ref q2),some (.int (((eA i [KM.D.tup ds]:Nat):Int)+((us.length:Nat):Int))),some (.int (0+(i:Int))),G,g] l;rw[eu];refine⟨_,rfl,_,_,rfl,rfl,_,rfl,?_⟩;refine dg (λc=>?_) (λc=>?_);·have c:(600:Int)<((eA (i+1) [KM.D.tup ds]:Nat):Int):=of_decide_eq_true c;have e:=A2 (ds:=ds) (i:=i+1) (by omega);rw[e]at q;exact q l s2
  have c:¬(600:Int)<((eA (i+1) [KM.D.tup ds]:Nat):Int):=of_decide_eq_false (Bool.eq_false_iff.mpr c);refine⟨by show 0<=sizeLine;decide,λq4 Z=>?_⟩;have e4:(upd l q4 (.lst [])) q4=some (.lst []):=aj;have s4:aK l (upd l q4 (.lst [])):=ah Z _;refine⟨_,rfl,q2,rfl,⟨us,bO.of (s4 _ _ C)⟩,Cz (xs:=us) (λj B H'=>∃(bs:List V)(g:Option V),B=[some v,some (.ref q2),some (.int (eA (i+1) [KM.D.tup ds])),some (.int (0+(i:Int))),some (.ref q4),g]/\H' q4=some (.lst bs)/\bb H' (((lv i [KM.D.tup ds]).take j).flatMap tk) bs/\aK l H') ?_ ?_ ?_ ?_⟩;·exact⟨[],g,rfl,e4,by simp[bb],s4⟩
  ·rintro j B H' _⟨bs,g,rfl,h4,rb,s'⟩;exact bO.of (s' _ _ C)
  ·rintro j u B H5 hu⟨bs,g,rfl,h4,rb,J⟩;obtain⟨d,hd,rd⟩:=I.get' hu;have U2:=x_ i [KM.D.tup ds] (iA ds) d (List.mem_of_getElem? hd);obtain⟨es,rfl⟩:∃es,d= .tup es:=by cases d<;>first|exact⟨_,rfl⟩|cases U2
   obtain⟨a,ws,rfl,ha,S⟩:=rd.mono J;have lr:ws.length<=sizeLine:=by have h1:=S.length;have h2:=AB (Bd i [KM.D.tup ds] (λx m=>by rw[List.mem_singleton.mp m];exact ok) _ (List.mem_of_getElem? hd));rw[sizeLine_eq];omega
   refine⟨_,rfl, .inl ⟨rfl,_,bO.of h4⟩,_,rfl,a,rfl,⟨ws,d8.of ha⟩,λp Y=>tD ws.length (gp es ws) Y lr (λk L UJ y=>?_) λL y h6=>?_⟩
   ·obtain⟨wk,F⟩:∃x,ws[k]?=some x:=⟨_,zQ03 UJ⟩;have Sz:d8 K L a ws:=d8.of (y _ _ ha);refine⟨⟨ws,wk,Sz,F⟩,?_⟩;rintro x' T⟨rfl,hy⟩R R0 hR Q1;have m:=hy ws Sz;rw[F]at m;cases m;obtain⟨dk,W,rk⟩:=S.get' F;refine⟨_,rfl,_,_,_,_,rfl,(Rep.mono y rk).ty,rF _ dk,_,rfl,?_⟩;refine dg (λc=>?_) (λc=>?_);·exact⟨_,rfl,hR wk T (by simp[gp,W,c,F]) (aK.refl _)⟩
    ·exact Q1 T (by simp[gp,W,c]) (aK.refl _)
   ·have lb:=rb.length;have U:=y _ _ h4;have n4:q4≠p:=aA h4 Y;have hl:(lv i [KM.D.tup ds]).take (j+1)=(lv i [KM.D.tup ds]).take j++[KM.D.tup es]:=by rw[List.take_add_one,hd];rfl
    have X:((lv i [KM.D.tup ds]).take (j+1)).flatMap tk=((lv i [KM.D.tup ds]).take j).flatMap tk++es.filter isTup:=by rw[hl,List.flatMap_append];simp[tk]
    have Ro:=nV (S.mono y);have UT:=Ro.length;have Vr:=nj (lv i [KM.D.tup ds]) (j+1);rw[<-lB,X,fK]at Vr;have Wt:(lv (i+1) [KM.D.tup ds]).length<=600*21:=by rw[lB];refine cu (t9 _ λx m=>Iq (Bd i [KM.D.tup ds] (λx m=>by rw[List.mem_singleton.mp m];exact ok) x m)) (Nat.mul_le_mul_right _ ?_);simp only[eA]at c;omega
    have np:∀vs,L q4≠some (.tup vs):=λvs z=>by rw[U]at z;cases z
    refine⟨⟨ws,d8.of (y _ _ ha),zQ04 _⟩,q4,p,_,_,rfl,rfl,U,h6,?_,?_⟩;·rw[lb,UT,sizeLine_eq];omega
    ·refine⟨_,_,rfl,aj,?_,λb o hb=>?_⟩;·rw[X];exact bb.kD (c8.upd _) np ((rb.mono y).append Ro)
     ·rw[aI (aA hb Z)];exact y _ _ (J _ _ hb)
  ·rintro B H5⟨bs,g,rfl,h4,rb,J⟩;rw[List.take_of_length_le (by omega),<-lB]at rb;refine⟨_,rfl,q4,bs,_,_,_,rfl,h4,rb,by omega,s2.trans J⟩
 ·rintro B l⟨q2,us,O,G,g,rfl,C,I,R7,s2⟩;refine⟨_,rfl,q2,us,rfl, .inl (bO.of C),_,_,rfl,rfl,?_⟩;have e:decide ((0:Int)<((us.length:Nat):Int))=gP (.tup ds):=by rw[Bp R7,I.length];simp
  show Q (.bl (decide ((0:Int)<((us.length:Nat):Int)))) l;rw[e];exact q l s2
end K17
end
section
namespace L3
open PySem PySem.Spec PyProof.Rows L2 KM
theorem zw{J:It}{p:Addr}{h:Hp}{g:TG}{w:TE}{b:L2.St}{C:Hp->Prop}(n:Nat)(B:Nat->Int->Prop)(t:h p=none)(hn:n<=sizeLine)(E:∀i a,i<n->aK h a->J.go i a/\∀x d,J.rZ i a x d->∀(R:V->Hp->Prop),(∀(z:Int)f,aK a f->B i z->R (.int z) f)->g x b d λl o=>w l o R)(hd:∀(ns:List Int)a,aK h a->ns.length=n->(∀(i:Nat)(z:Int),ns[i]?=some z->B i z)->a p=some (.lst (ns.map V.int))->J.stop n a/\C a):∃W:Nat->Nat->List V->Hp->Prop,(∃m,W 0 m [] (upd h p (.lst [])))/\∀i m c a,W i m c a->(J.stop i a/\C a)\/(J.go i a/\∀x d,J.rZ i a x d->g x b d λl o=>vB l o λok s=>if ok=true then w l s λv f=>f p=some (.lst c)/\c.length<sizeLine/\∃k,k<m/\W (i+1) k (c++[v]) (upd f p (.lst (c++[v])))else∃k,k<m/\W (i+1) k c s):=by
 refine lE (Q:=λ_ H=>C H) n (λi c a=>∃ns:List Int,c=ns.map V.int/\ns.length=i/\(∀(j:Nat)(z:Int),ns[j]?=some z->B j z)/\a p=some (.lst c)/\aK h a) ⟨[],rfl,rfl,λj z e=>by simp at e,aj,ah t _⟩ ?_ ?_
 ·rintro i c a hi⟨ns,rfl,hl,r,h2,s2⟩;obtain⟨A,D⟩:=E i a hi s2;refine⟨A,λx d y=>?_⟩;simp only[vB,if_true];refine D x d y _ λz f u F=>⟨u _ _ h2,by rw[cT];lia,nx hi ⟨ns++[z],by simp,by simp[hl],λj y e=>?_,aj,ip (s2.trans u) t⟩⟩;by_cases hj:j<ns.length;·rw[uT hj]at e;exact r j y e
  ·rw[List.getElem?_append_right (by lia)]at e;have :j-ns.length=0:=by
    by_cases q:j-ns.length=0;·exact q
    ·rw[List.getElem?_eq_none (by simp;lia)]at e;cases e
   rw[this]at e;simp at e;subst e;have :j=i:=by lia
   rw[this];exact F
 ·rintro c a⟨ns,rfl,hl,r,h2,s2⟩;exact hd ns a s2 hl r h2
end L3
end
section
namespace K17
open PySem L2 L3 KM PyProof.Rows
seal L2.PE L2.PS L2.fY L2.PT L2.PW L2.PA L2.PG L2.wN L2.PI L2.PC L2.PO L2.vT L2.PK L3.vW
variable{P:Program}{w:World}{K:PySem.W.Frag}{mg:Str->Option Value}{base:Heap}{t:uY}
theorem oo{k:Bool}{x:Str}{ps:List D}(h:bf av k (.tup (.str x::ps))=true)(g:bV x=true):∀(i:Nat)(p:D),ps[i]?=some p->isTup p=false/\(fI p=true\/av p=true):=by
 obtain⟨s,h1,h2,h3,h4,h5,h6,l,_⟩:=bT h;have hc:∀(cs:List Nat)(a:List D)(i:Nat),eB av cs a=true->(∀c∈cs,J7 c=!bV x)->∀p,a[i]?=some p->isTup p=false/\(fI p=true\/av p=true):=λcs=>by
  induction cs with
   |nil=>intro a i hq _ p e;cases a with|nil=>simp at e|cons _ _=>simp[eB]at hq
   |cons c cs j=>
    intro a i hq f p e;cases a with
     |nil=>simp[eB]at hq
     |cons q a=>
      rw[aw,cw]at hq;cases i with
       |zero=>
        simp at e;subst e;have d:=f c cY;rw[g]at d;have b:=hq.1;unfold cE at b;rw[if_neg (λz=>by rw[z,Ri]at d;cases d),if_neg (λz=>by rw[z,Si]at d;cases d)]at b;split at b;·exact⟨by cases q<;>simp[fI]at b<;>rfl, .inl b⟩
        ·exact⟨by cases q<;>simp[av]at b<;>rfl, .inr b⟩
       |succ i=>exact j a i hq.2 (λc hc=>f c (c_ _ hc)) p (by simpa using e)
 exactλi p e=>hc _ ps i h3 h6 p e
theorem nU:∀(ps:List D),(∀(i:Nat)(p:D),ps[i]?=some p->isTup p=false)->aC ps=0/\az ps=0
 |[],_=>⟨rfl,rfl⟩
 |p::ps,h=>by
  obtain⟨h1,h2⟩:=nU ps λi q e=>h (i+1) q (by simpa using e);have a:=h 0 p rfl;have b:aB p=0:=by cases p<;>first|rfl|simp[isTup]at a
  have c:depth p=0:=by cases p<;>first|rfl|simp[isTup]at a
  simp[aC,az,h1,h2,b,c]
theorem ij:∀ps:List D,aC ps=(ps.map aB).sum|[]=>rfl|p::ps=>by simp[aC,ij ps]
theorem gZ:∀ps:List D,az ps=o_ (ps.map depth)|[]=>rfl|p::ps=>by rw[az,gZ ps];rfl
theorem fj{k:Bool}{x:Str}{ps:List D}(h:bf av k (.tup (.str x::ps))=true):aB (.tup (.str x::ps))=1+((ak x ps).map aB).sum/\depth (.tup (.str x::ps))=1+o_ ((ak x ps).map depth):=by
 rw[<-ij,<-gZ];have b:aB (.tup (.str x::ps))=1+aC ps:=by simp[aB,aC]
 have c:depth (.tup (.str x::ps))=1+az ps:=by simp[depth,az]
 rw[b,c];unfold ak;by_cases a:bV x=true;·obtain⟨d,f⟩:=nU ps λi p e=>(oo h a i p e).1;rw[if_pos a,d,f];exact⟨rfl,rfl⟩
 ·rw[if_neg a];exact⟨rfl,rfl⟩
structure Rz(d:D)(n:Nat):Prop where
 wf:Wf d
 dp:depth d<n
 kn:0<=aB d
theorem Rz.Tz{n:Nat}{x:Str}{ps:List D}{i:Nat}{p:D}(h:Rz (.tup (.str x::ps)) (n+1))(e:(ak x ps)[i]?=some p):Rz p n:=by obtain⟨k,wf⟩:=h.wf;obtain⟨w1,w2⟩:=cR wf e;have hd:=h.dp;exact⟨w1,by omega,zQ11 _⟩
structure Rs(d:D)(n:Nat):Prop where
 wf:Wf d
 dp:depth d<n
 kn:aB d<=8000000
mutual noncomputable def eP:D->Bool| .int i=>decide (99<i)| .tup ds=>kR ds|_=>false noncomputable def kR:List D->Bool|[]=>false|d::ds=>eP d||kR ds end
theorem Ep{ds:List D}:∀{ns:List Int},ns.length=ds.length->(∀(i:Nat)(z:Int),ns[i]?=some z->decide (99<z)=eP ((ds[i]?).getD .a_))->kR ds=ns.any λz=>decide (99<z):=by
 induction ds with
  |nil=>intro ns h _;cases ns with|nil=>rfl|cons _ _=>simp at h
  |cons d ds b=>intro ns h a;cases ns with|nil=>simp at h|cons z ns=>rw[kR,List.any_cons,b (by simpa using h) (λi z e=>by simpa using a (i+1) z (by simpa using e)),a 0 z rfl];rfl
theorem any_max(b:Int):∀(ns:List Int)(d:Int),d<=b->decide (b<maxD ns d)=ns.any λz=>decide (b<z)|[],d,h=>by show decide (b<d)=false;exact decide_eq_false (by omega)|a::r,d,_=>by show decide (b<r.foldl Jl a)=_;rw[List.any_cons];induction r generalizing a with|nil=>exact(Bool.or_false _).symm|cons c r e=>rw[List.foldl_cons,e,List.any_cons,<-Bool.or_assoc];congr 1;unfold Jl;by_cases h1:b<a<;>by_cases h2:b<c<;>simp[h1,h2]<;>split<;>omega
theorem A3{x:Str}{ps:List D}{k:Bool}(wf:bf av k (.tup (.str x::ps))=true)(a:bV x=true)(hv:x≠"var"):∀(i:Nat)(p:D),ps[i]?=some p->eP p=false:=λi p e=>by
 have a:x="name":=by unfold bV at a;simp[hv]at a;exact a
 subst a;obtain⟨g,c,_,b,_,d,_⟩:=bT wf;rw[ff]at c;cases c;rw[BS]at b d;cases ps with
  |nil=>simp at e
  |cons f rest=>
   cases rest with
    |cons _ _=>simp at d
    |nil=>
     rw[aw,cw]at b;have hn:av f=true:=by simpa[cE]using b.1
     cases i with|succ i=>simp at e|zero=>simp at e;subst e;cases f<;>first|rfl|simp[av]at hn
theorem ET{x:Str}{ps:List D}{k:Bool}{ns:List Int}{d:Int}(wf:bf av k (.tup (.str x::ps))=true)(hv:x≠"var")(hd:d<=99)(hl:ns.length=(ak x ps).length)(c:∀(i:Nat)(z:Int),ns[i]?=some z->decide (99<z)=eP (((ak x ps)[i]?).getD .a_)):decide (99<maxD ns d)=eP (.tup (.str x::ps)):=by
 rw[any_max 99 ns d hd,<-Ep hl c];show _=(false||kR ps);rw[Bool.false_or];unfold ak;split
 ·rename_i e;symm;show kR ps=false;have g:∀a:List D,(∀p∈a,eP p=false)->kR a=false:=λa=>by induction a with|nil=>intro _;rfl|cons q a f=>intro h;rw[kR,h q cY,f λp b=>h p (c_ _ b)];rfl
  refine g ps λp b=>?_;obtain⟨i,hi,rfl⟩:=List.mem_iff_getElem.mp b;exact A3 wf e hv i _ (zQ03 hi)
 ·rfl
def xR(n:Nat):Sp:=λvs H Q _=>∃(d:D)(v:V),vs=[v]/\Rep H d v/\Rz d n/\∀(i:Int)(H':Hp),decide (99<i)=eP d->aK H H'->Q (.int i) H'
theorem kU:aP ["thing"] ["thing"] (ao bS):=⟨rfl,rfl,rfl,by decide+kernel,rfl,by decide+kernel,by decide+kernel⟩
theorem kP{n:Nat}(D:Df K mg "top_variable" bS ["thing"])(M:Mg mg t)(G:bZ P w K mg bW "kids_of" (1) ["thing"] g7)(I:bZ P w K mg bW "top_variable" (n+3) ["thing"] (xR n)):bZ P w K mg bW "top_variable" (n+4) ["thing"] (xR (n+1)):=by
 refine D.ok kU (λvs H Q E h=>?_) (λbase f cS A outer s H vs Q E hr h=>?_);·obtain⟨d,v,rfl,_⟩:=h;rfl
 obtain⟨d,v,rfl,r,rz,q⟩:=h;obtain⟨x,ps,k,rfl,wf,W⟩:=vY rz.wf;have T:=CZ wf;obtain⟨a,F,rfl,ha,v0,F,rfl,⟨rfl,o⟩,rp⟩:=id r;have L:rO (V.str x::F) 0=some (.str x):=bF (j:=0) rfl;refine⟨_,(ar (bH (aN ck (bY da (pv 0) ag (λ_ _=>rfl)) ai (aS _)) (aq (aF (bY da (pv 0) ag (λ_ _=>rfl)))) aY) (aq (aF (D8 M.M8 (aa (ll (N':=["kid"]) (own:=1) (fr:=[]) rfl (lU (N:=["thing"]) (sc:=ao bS) rfl rfl rfl (by decide+kernel)) (xQ (aH G hr.m rfl aX (aa (pv 0) af))) (iq (by decide)) (λ_ _ _=>(cM (i:=0) (show List.Nodup (["kid"]:List Str)by decide+kernel) rfl (Or.inl rfl))) (λ_ _ _=>qb) (λ_ _ _=>(aH I hr.m rfl aX (aa (pv 0) af)))) af) (Ee ag G6))))),?_⟩;try dsimp only[r_,gG]
 refine vN ?_;intro _ _;refine⟨_,rfl,a,_,_,_,rfl,rfl,d8.of ha,L,rfl,_,rfl,?_⟩;refine dg (λc=>?_) (λc=>?_)
 ·have c:V.str x=V.str "var":=of_decide_eq_true c;cases c;obtain⟨sh,u,_,g,_,l,_⟩:=bT wf;rw[cV]at u;cases u;rw[mq]at g l;obtain⟨b,rfl⟩:∃b,ps=[b]:=by cases ps with|nil=>simp at l|cons b rest=>cases rest with|nil=>exact⟨b,rfl⟩|cons _ _=>simp at l
  rw[aw,cw]at g;have hn:fI b=true:=by simpa[cE]using g.1
  obtain⟨i,rfl⟩:∃i,b= .int i:=by cases b<;>first|exact⟨_,rfl⟩|simp[fI]at hn
  obtain⟨u1,Rm,rfl,r1,_⟩:=rp;cases(show u1=V.int i from r1);have hi:decide (99<i)=eP (.tup [.str "var", .int i]):=by simp[eP,kR]
  exact⟨_,rfl,a,_,_, .int i,rfl,rfl,d8.of ha,bF (j:=1) rfl,q i H hi (aK.refl H)⟩
 refine⟨_,rfl,x,ps,_,rfl,r,W,λZ us H1 _ s1 h1 r1=>⟨Z,rfl,⟨us,bO.of h1⟩,λp2 U=>?_⟩⟩;have l1:=r1.length;refine zw (ak x ps).length (λi z=>decide (99<z)=eP (((ak x ps)[i]?).getD .a_)) U (cu T (by decide)) (λi p hi s2=>?_) λns p s2 hl O h2=>⟨⟨us,bO.of (s2 _ _ h1),by omega⟩,?_⟩;·obtain⟨e,m⟩:∃e,(ak x ps)[i]?=some e:=⟨_,zQ03 hi⟩;obtain⟨C,B,GX⟩:=r1.get m;refine⟨⟨us,C,bO.of (s2 _ _ h1),B⟩,?_⟩;rintro y H3⟨rfl,X⟩R S;have o:=X us (bO.of (s2 _ _ h1));rw[B]at o;cases o;exact⟨_,rfl,e,C,rfl,GX.mono s2,rz.Tz m,λz J Y s4=>S z J s4 (by rw[m];exact Y)⟩
 ·refine⟨p2,ns,_,rfl,rfl,bO.of h2,?_⟩;exact q _ p (ET wf (λz=>c (by rw[z];exact decide_eq_true rfl)) (by decide) hl O) (s1.trans s2)
theorem eC(D:Df K mg "top_variable" bS ["thing"])(M:Mg mg t)(a:bZ P w K mg bW "kids_of" (1) ["thing"] g7):∀n:Nat,bZ P w K mg bW "top_variable" (n+3) ["thing"] (xR n)|0=>bZ.never D λvs H Q E⟨d,v,_,_,h,_⟩=>absurd h.dp (kO _)|n+1=>kP D M a (eC D M a n)
def jD(C:Addr)(n:Nat):Sp:=λvs H Q E=>∃(d:D)(v:V),vs=[v]/\Rep H d v/\Rz d n/\(∀H',aK H H'->(gP d||eP d)=false->Q v H')/\(∀H',aK H H'->(gP d||eP d)=true->E (.ref C) none H')
theorem uW:aP ["thing"] ["thing"] (ao gC):=⟨rfl,rfl,rfl,by decide+kernel,rfl,by decide+kernel,by decide+kernel⟩
theorem oA{n:Nat}(D:Df K mg "bounded" gC ["thing"])(M:Mg mg t)(g:zk K t.dF)(j:bZ P w K mg bW "is_vast" (1) ["value"] CV)(l:bZ P w K mg bW "top_variable" (n+3) ["thing"] (xR n)):bZ P w K mg (h_ P w) "bounded" (n+4) ["thing"] (jD t.dF n):=by
 refine D.KR uW (λvs H Q E h=>?_) (λbase f cS A outer s H vs Q E hr h=>?_);·obtain⟨d,v,rfl,_⟩:=h;rfl
 obtain⟨d,v,rfl,r,rz,q,b⟩:=h;obtain⟨x,ps,k,rfl,wf,u⟩:=vY rz.wf;refine⟨_,(ar (bH (L2.PW.pt (uw (gb (aH j hr.m rfl aX (aa (pv 0) af))) (mE (aN v8 (aH l hr.m rfl aX (aa (pv 0) af)) (qR M.g_MOST_VARIABLE rfl) (aS _))))) (aq (A0 (G:=(λH'=>E (.ref t.dF) none H')) g M.g_Great (aa ai af) (λpins σ H s e h' I m q=>DR I m q))) aY) (aq (aF (pv 0)))),?_⟩;try dsimp only[r_,p]
 refine vN ?_;intro _ _;refine⟨_,rfl,_,v,rfl,r,AH wf,rz.kn,λo s1=>⟨_,rfl,?_⟩⟩;refine dg (λc=>iI ⟨by decide,b o s1 (by rw[c];rfl)⟩) (λc=>?_);refine⟨_,rfl,_,v,rfl,r.mono s1,rz,λi a hi s2=>⟨_,_,rfl,rfl,_,rfl,?_⟩⟩;have c:gP (.tup (.str x::ps))=false:=Bool.eq_false_iff.mpr c;refine dg (λc2=>⟨by decide,b a (s1.trans s2) (by rw[<-hi,c];exact c2)⟩) (λc2=>⟨_,rfl,q a (s1.trans s2) (by rw[<-hi,c];exact Bool.eq_false_iff.mpr c2)⟩)
noncomputable def aR(x:Str)(ps a:List D):D:=if a=[]then .tup (.str x::ps)else .tup (.str x::a)
def jI:Sp:=λvs H Q _=>∃(x:Str)(ps b:List D)(v:V)(a:Addr)(us:List V),vs=[v, .ref a]/\Rep H (.tup (.str x::ps)) v/\H a=some (.lst us)/\bb H b us/\b.length<=10/\∀(u:V)(H':Hp),aK H H'->Rep H' (aR x ps b) u->Q u H'
theorem vM:aP ["thing","kids"] ["thing","kids"] (ao gy):=⟨rfl,rfl,rfl,by decide+kernel,rfl,by decide+kernel,by decide+kernel⟩
theorem zq(D:Df K mg "rebuilt" gy ["thing","kids"])(M:Mg mg t):bZ P w K mg bW "rebuilt" (1) ["thing","kids"] jI:=by
 refine D.ok vM (λvs H Q E h=>?_) (λbase f cS A outer s H vs Q E hr h=>?_);·obtain⟨x,ps,d,v,a,us,rfl,_⟩:=h;rfl
 obtain⟨x,ps,d,v,a,us,rfl,r,ha,e,hl,q⟩:=h;have n:=e.length;obtain⟨b,y,rfl,hb,F,y,rfl,⟨rfl,m⟩,C⟩:=id r;refine⟨_,(ar (bH (aN ck (bK bB rfl M.iz gk (aa (pv 1) af)) ag (aS _)) (aq (aF (pv 0))) aY) (aq (aF (aD Dp (bA (aa (bY da (pv 0) ag (λ_ _=>rfl)) af)) (gF gX rfl M.i_ gw (aa (pv 1) af)))))),?_⟩;try dsimp only[r_,B]
 refine vN ?_;intro _ _;refine⟨_,rfl,a,_,rfl, .inl (bO.of ha),rfl,_,rfl,?_⟩;refine dg (λc=>?_) (λc=>?_)
 ·have c:V.int ((us.length:Nat):Int)=V.int 0:=of_decide_eq_true c;have hq:d=[]:=by injection c with c;exact List.length_eq_zero_iff.mp (by omega)
  refine⟨_,rfl,q _ H (aK.refl H) ?_⟩;unfold aR;rw[if_pos hq];exact r
 ·have hq:d≠[]:=λz=>c (by subst z;have :us.length=0:=n;rw[this];exact decide_eq_true rfl);refine⟨_,rfl,b,_,_,_,rfl,rfl,d8.of hb,bF (j:=0) rfl,(eZ rfl),λo k=>?_⟩;have s1:=ah k (.tup [V.str x]);refine⟨_,rfl,a,us,rfl, .inl ⟨bO.of (s1 _ _ ha),λp l=>?_⟩⟩;have s2:=ah l (.tup us);refine⟨o,p,_,_,rfl,rfl,s2 _ _ aj,aj,?_,λu i g h3=>?_⟩;·rw[List.length_singleton,sizeLine_eq];omega
  ·refine q _ i (s1.trans (s2.trans g)) ?_;unfold aR;rw[if_neg hq];exact⟨u,_,rfl,h3,_,_,rfl,⟨rfl,m⟩,e.mono (s1.trans (s2.trans g))⟩
end K17
end
section
namespace L3
open PySem PySem.Spec PyProof.Rows L2
theorem DT{X:Cx}{ix:Nat}{x:Str}{pos' apos:Pos}{tg iter G:Expr}{K:List Expr}{scope:Scope}{pos:Pos}{wi:TI}{g:TG}{tt:TT}{te:TE}{N':List Str}{own:Nat}{fr:List Nat}(hN:X.N.Nodup)(PQ:X.N[ix]?=some x)(Sb:X.env.scope.names.lookup x=some .local)(hc:X.calm=true)(S:ja X N' own fr scope)(hi:PI X tg iter wi)(ho:Own own g)(hg:∀E B fp,PG (cC X N' scope E B fp) tg g)(hf:∀E B fp,vW (cC X N' scope E B fp) K tt)(he:∀E B fp,PE (cC X N' scope E B fp) G te)(Um:swapsWithSole [.Name x pos'] (.ListComp G [⟨tg,iter,K,0⟩] scope pos) apos.line X.env=pure true:=by rfl)(hs:∀x,foldedSetIterable iter X.env x=pure x:=by intro _;rfl):PS X (.Assign [.Name x pos'] (.ListComp G [⟨tg,iter,K,0⟩] scope pos) apos) (Jf (Gu own fr wi g tt te) (jY ix)):=by
 intro pins s σ H D I h;have zQ:∀x∈scope.names,x.2= .free->∃c,X.env.cells.lookup x.1=some c:=λx hx e=>I.ok.has x.1 (S.free x hx e);rw[exec_Assign_arm];refine zQ00 (wpAny_standAt (zQ00 (wpAny_of_eq Um ?_)));rw[if_pos rfl,arm_evalThenUse_ListComp];refine zQ00 (zQ00 (d9 (Q:=λ_ s'=>SP X pins D .next s') ?_ (λ_ s' q=>zQ02 (zQ02 q)) λ_ _ z=>z));refine wpAny_comprehension_free (use:=some _) (Q:=λ_ s'=>SP X pins D .next s') rfl hs (mK zQ) S.kind S.loc ?_;refine bw (hi pins s σ H _ I h) λv s1 h1=>bw h1 λN3 s2 h2=>?_;obtain⟨it,fp,tn,J,d,e,I2,T,bJ,f2,h2⟩:=h2;subst e;refine gL (hd:=by size_fits) (wpAny_newFunctionEnv S.jP (by intro y hy;simp at hy) (λh4 V Z=>?_) S.kind);have zS:=I2.bc.fresh (zQ04 s2.heap.objs.size);obtain⟨W,⟨m0,w0⟩,turn⟩:=h2 _ zS;have k:Inv X pins σ (upd d s2.heap.objs.size (.lst [])) {s2 with heap:=s2.heap.push {cls:= .type "list",dict:=none,data:= .seq ([]:List Value).toArray},toks:=s2.toks}:=I2.IA .nil (zQ11 _);have Lz:∀b∈fp,b<s2.heap.objs.size:=λb hb=>let⟨o,e,_⟩:=T.obj _ _ bJ b hb;zQ05 e;have PX:∀b o,s2.heap.get? b=some o->∀ob:Obj,(s2.heap.push ob).get? b=some o:=λb o e ob=>zQ01 _ e;have Lx:(s2.heap.push {cls:= .type "list",dict:=none,data:= .seq ([]:List Value).toArray}).objs.size=s2.heap.objs.size+1:=zQ21 ..;revert V Z k;generalize e3:s2.heap.push {cls:= .type "list",dict:=none,data:= .seq ([]:List Value).toArray}=h3 at Lx⊢;intro V Z k;have keep:∀b o,h3.get? b=some o->h4.get? b=some o:=λb o e=>(Z.2 b (zQ18 (zQ05 e))).trans (zQ01 _ e);have R:∀b∈fp,iX X pins (upd d s2.heap.objs.size (.lst [])) b/\b<h3.objs.size:=λb hb=>by refine⟨⟨?_,(f2 b hb).2⟩,by rw[Lx];exact Nat.lt_succ_of_lt (Lz b hb)⟩;rw[aI (zQ18 (Lz b hb))];exact(f2 b hb).1
 have F:=vU (t4:=s2.toks+([]:List (Str×Value)).length) S k R keep V;have HK:tn 0 h4:=T.keep _ _ _ bJ λb hb o e=>keep b o (by rw[<-e3];exact PX b o e _);have mF:∀{H':Hp},(∀b∈fp,H' b=none)->∀b∈fp,iX (cC X N' scope {s2 with heap:=h3,toks:=s2.toks} (upd d s2.heap.objs.size (.lst [])) fp) [] H' b:=λ{H'}hn b hb=>⟨hn b hb,zQ18 (R b hb).2,λz=>F.ok.nI b hb z, .inl hb,(F.ok.GF b hb).2,λp Y=>(f2 b hb).2.2.2.2.2 p (jy _ (by simpa using Y))⟩;have loop:∀M:Shared,Inv (cC X N' scope {s2 with heap:=h3,toks:=s2.toks} (upd d s2.heap.objs.size (.lst [])) fp) [] (eK own fr σ) (upd d s2.heap.objs.size (.lst [])) M->tn 0 M.heap->codeAny (model X.prog X.w) X.A (.compLoop (.ListComp G [⟨tg,iter,K,0⟩] scope pos) 0 (.ref it) (.ref s2.heap.objs.size) (ve X scope h3.objs.size)) (compPost (model X.prog X.w) X.A X.xe (some λv=>assignAll v ((assignEach [.Name x pos'] X.env).map (·.2))) (λ_ s'=>SP X pins D .next s') (.ref s2.heap.objs.size) h3.objs.size) M:=by
  intro M Ix tx;refine jZ (λn s'=>∃i t H',Inv (cC X N' scope {s2 with heap:=h3,toks:=s2.toks} (upd d s2.heap.objs.size (.lst [])) fp) [] (eK own fr σ) H' s'/\tn i s'.heap/\(∀b∈fp,H' b=none)/\W i n t H') ?_ m0 ⟨0,[],_,Ix,tx,λb hb=>(R b hb).1.1,w0⟩;rintro n s5⟨i,t,C,I5,DN,GQ,w5⟩;rcases turn i n t C w5 with⟨stop,qn⟩|⟨go,step⟩
  ·refine bw (T.done (cC X N' scope {s2 with heap:=h3,toks:=s2.toks} (upd d s2.heap.objs.size (.lst [])) fp) rfl rfl rfl hc i [] s5 _ C (λ_ _=>False) I5 (mF GQ) DN stop) λr L a=>?_;obtain⟨hr,w⟩:=a;subst hr;obtain⟨m6,Qq,_⟩:=id w.loc;have O:Inv X pins σ C L:=k.BB (s':=L) (ch:=fp) w.os (m9 (h2:=L.heap) w.base (zQ04 _) ⟨rfl,λ_ _=>rfl⟩) w.bc w.bare λb hb=>⟨(f2 b hb).2.2.2.1,(f2 b hb).2.1,(f2 b hb).2.2.2.2.1,(f2 b hb).2.2.2.2.2⟩;show wpAny _ _ (assign (.Name x pos') X.env (.ref s2.heap.objs.size)) _ _ _;refine wpAny_assign_Name (oz (v:= .ref s2.heap.objs.size) O hN PQ (.inl Sb) rfl (λs8 P a=>?_) (.inr Sb));obtain⟨a8,Uz,VS⟩:=a;have So:∀y c,X.env.cells.lookup y=some c->c<h3.objs.size:=λy c e=>by obtain⟨v,o,eo,_⟩:=k.cell y c e;exact zQ05 eo
   have Us:h3.objs.size≠a8:=by
    rcases VS with z|z;·rw[z];exact Nat.ne_of_gt k.lt
    ·exact Nat.ne_of_gt (So _ _ z)
   obtain⟨o6,V4,Oz,NY,r6⟩:=Qq;refine⟨m6,⟨o6,V4,Oz,(Uz.2 _ Us).trans NY,r6⟩,λh9 Uy=>?_⟩;have l:=P.turned (h':=h9) (t':=s8.toks) (it:=h3.objs.size) (λb o hb e=>(Uy.2 b hb).trans e) w.free (Nat.ne_of_gt k.lt) (.inr k.sz) (λy c e=>zQ18 (So y c e)) λp Y=>zQ18 (zQ05 (k.pin p Y).1);exact⟨_,C,l,qn⟩
  ·refine bw (T.item (cC X N' scope {s2 with heap:=h3,toks:=s2.toks} (upd d s2.heap.objs.size (.lst [])) fp) rfl rfl rfl hc i [] s5 _ C (λ_ _=>False) I5 (mF GQ) DN go) λr L a=>?_;obtain⟨u,hr,h6⟩:=a;subst hr;refine bw h6 λ_ s7 a=>?_;obtain⟨x,H7,O,r7,y7,Hc,Pd⟩:=a;have Qg:=O.pinned (mF Pd) (T.obj _ _ Hc);refine bw (hg _ _ _ _ s7 _ H7 x u _ Qg r7 (ho _ _ _ _ (step x H7 y7))) λ_ s8 a=>?_;obtain⟨N,H8,P,q8,l8,k8⟩:=a;have again:∀{m:Hp}{A:Shared},Inv (cC X N' scope {s2 with heap:=h3,toks:=s2.toks} (upd d s2.heap.objs.size (.lst [])) fp) ([]++jC fp s7.heap) N m A->Inv (cC X N' scope {s2 with heap:=h3,toks:=s2.toks} (upd d s2.heap.objs.size (.lst [])) fp) [] (eK own fr σ) m A/\tn (i+1) A.heap/\∀b∈fp,m b=none:=λ{m A}l=>by
    refine⟨l.gc.weak l8.symm λj v e=>?_,T.keep _ _ _ Hc λb hb o e=>(l.pin (b,o) (fJ _ (fJ _ (dh hb e)))).1,λb hb=>?_⟩
    ·have hj:own<=j:=by refine Nat.le_of_not_lt λz=>?_;unfold eK at e;rw[uT (by simpa using z),List.getElem?_replicate]at e;split at e<;>cases e
     rw[k8 j hj];exact e
    ·obtain⟨o,e,_⟩:=T.obj _ _ Hc b hb;exact(l.pin (b,o) (fJ _ (fJ _ (dh hb e)))).2.1
   refine bw (hf _ _ _ _ s8 N H8 _ P q8) λok A a=>?_;obtain⟨m,l,q9⟩:=a;cases ok with|false=>obtain⟨m',U,w9⟩:=q9;obtain⟨a1,a2,a3⟩:=again l;exact⟨m',U,i+1,t,m,a1,a2,a3,w9⟩|true=>refine bw (he _ _ _ _ A N m _ l q9) λy P_ a=>?_;obtain⟨v,KY,P4,OA,Im,Ir,m',U,QQ⟩:=a;refine bw (jq _ P_ N KY (.ref s2.heap.objs.size) [v] (.ref s2.heap.objs.size) [y] (λ_ Hn=>Hn=upd KY s2.heap.objs.size (.lst (t++[v]))) P4 rfl (.cons OA .nil) ⟨_,t,v,rfl,rfl,Im,Ir,rfl⟩) λ_ Vv a=>?_;obtain⟨_,We,Qf,_,OW⟩:=a;subst OW;obtain⟨a1,a2,a3⟩:=again Qf;exact⟨m',U,i+1,t++[v],_,a1,a2,a3,QQ⟩
 exact codeAny_compStart_list (loop _ F HK) (d9 (T.self X.A 0 _ (λv s'=>v= .ref it/\s'=_) (λ_ _=>False) HK ⟨rfl,rfl⟩) (λv s'⟨e1,e2⟩=>by subst e1;subst e2;exact loop _ F HK) λ_ _ f=>f.elim)
end L3
end
section
namespace L3
open PySem PySem.Spec PyProof.Rows L2 KM
theorem jK(a:List Int):∀x∈a.map V.int,fC x=true:=λx h=>by obtain⟨i,_,rfl⟩:=List.mem_map.mp h;rfl
section
variable{X:Cx}
end
section
variable{X:Cx}{pins:List (Addr×Obj)}{σ:L2.St}{H:Hp}{s:Shared}{a:Addr}{D:List (Str×V)}{k:Str}{tk:Tok}{A:Around}{E:Value->Shared->Prop}
end
noncomputable abbrev fi(qual:Str):HO:= .m_ (.code qual)
structure eV(ps cs:List Str)(scope:Scope):Prop where
 kind:scope.kind= .function
 co:scope.isCoroutine=false
 gen:scope.isGenerator=false
 jP:∀x∈scope.names,x.2≠ .cell
 par:∀x∈ps,scope.names.lookup x=some .local
 nd:(ps++cs).Nodup
 free:∀x∈cs,scope.names.lookup x=some .free
 all:∀x,scope.names.lookup x=some .free->x∈cs
structure mW(h:Heap)(f c:Addr)(name qual:Str)(params:Arguments)(body:List Stmt)(scope:Scope)(cs:List Str)(ws:List V)(cl:List (Str×Addr))(doc pm ct:Value):Prop where
 fo:h.get? f=some {cls:= .type "function",data:= .func (PySem.W.fnX name qual params body scope cl .none .none doc pm none (.ref c) ct)}
 inj:∀x y a,cl.lookup x=some a->cl.lookup y=some a->x=y
 own:∀x a,cl.lookup x=some a->x∈cs
 cell:∀(i:Nat)(x:Str),cs[i]?=some x->∃(v:V)(a:Addr)(u:Value),ws[i]?=some v/\cl.lookup x=some a/\RelV v u/\h.IsCell a (some u)
 len:ws.length=cs.length
section
variable{h h':Heap}{f c:Addr}{name qual:Str}{params:Arguments}{body:List Stmt}{scope:Scope}{cs:List Str}{ws:List V}{cl:List (Str×Addr)}{doc pm ct:Value}
theorem mW.keeps(C:mW h f c name qual params body scope cs ws cl doc pm ct)(k:∀b o,h.get? b=some o->h'.get? b=some o):mW h' f c name qual params body scope cs ws cl doc pm ct:=⟨k _ _ C.fo,C.inj,C.own,λi x e=>let⟨v,a,u,h1,h2,h3,o,h4,h5⟩:=C.cell i x e;⟨v,a,u,h1,h2,h3,o,k _ _ h4,h5⟩,C.len⟩
end
noncomputable abbrev ie(qual:Str)(scope:Scope)(L f c:Addr)(cl:List (Str×Addr)):Env:=PySem.W.envX qual scope L f (.ref c) cl
noncomputable def sP(CX:lC)(P:Program)(w:World)(K:PySem.W.Frag)(mg:Str->Option Value)(base:Heap)(N:List Str)(qual:Str)(scope:Scope)(f c:Addr)(cl:List (Str×Addr))(A:Around)(outer:List Env)(s:Shared)(H:Hp)(E:XK):Cx where prog:=P;w:=w;K:=K;mg:=mg;base:=base;A:=A.deeper (ie qual scope s.heap.objs.size f c cl);N:=N;bG:=s;H₀:=H;env:=ie qual scope s.heap.objs.size f c cl;outer:=outer;stack:=ie qual scope s.heap.objs.size f c cl::outer;ex:=[];calm:=true;fn:=λ_=>false;pn:=[];xe:=λe s'=>wpAny (model P w) (A.deeper (ie qual scope s.heap.objs.size f c cl)) (leaving (ie qual scope s.heap.objs.size f c cl) e) (λ_ a=>CX A.handled outer H s E e a) (λb a=>CX A.handled outer H s E b a) s'
theorem lV{a:Type}:∀{l:List (Str×a)}{x:Str}{v:a},(l.map (·.1)).Nodup->(x,v)∈l->l.lookup x=some v
 |[],_,_,_,h=>by cases h
 |(y,w)::l,x,v,nd,h=>by
  rw[eO,List.nodup_cons]at nd;rw[jc];rcases List.mem_cons.mp h with e|h;·cases e;simp
  ·have hne:x≠y:=λz=>nd.1 (by rw[<-z];exact List.mem_map.mpr ⟨(x,v),h,rfl⟩);have :(x==y)=false:=by simpa using hne
   rw[this];exact lV nd.2 h
theorem oE:∀{ps:List Str}(us:List Value),ps.Nodup->((ps.zip us).map (·.1)).Nodup|[],us,_=>by simp|p::ps,[],_=>by simp|p::ps,u::us,nd=>by rw[List.nodup_cons]at nd;rw[List.zip_cons_cons,eO,List.nodup_cons];refine⟨λh=>nd.1 ?_,oE us nd.2⟩;obtain⟨⟨a,b⟩,hm,e⟩:=List.mem_map.mp h;cases e;exact(List.of_mem_zip hm).1
theorem Bl{ps:List Str}{us:List Value}(nd:ps.Nodup){i:Nat}{x:Str}{u:Value}(h1:ps[i]?=some x)(h2:us[i]?=some u):(ps.zip us).reverse.lookup x=some u:=by have hm:(x,u)∈(ps.zip us).reverse:=List.mem_reverse.mpr (List.mem_of_getElem? (i:=i) (by rw[List.getElem?_zip_eq_some];exact⟨h1,h2⟩));refine lV ?_ hm;have a:((ps.zip us).map (·.1)).Nodup:=oE us nd;rw[List.map_reverse];exact(List.reverse_perm _).nodup_iff.mpr a
theorem EH{CX:lC}{P:Program}{w:World}{K:PySem.W.Frag}{mg:Str->Option Value}{base:Heap}{ps cs:List Str}{name qual:Str}{params:Arguments}{body:List Stmt}{scope:Scope}{f c:Addr}{cl:List (Str×Addr)}{doc pm ct:Value}{A:Around}{outer:List Env}{s:Shared}{H:Hp}{E:XK}{us:List Value}{vs ws:List V}{h1:Heap}{t1:Nat}(S:eV ps cs scope)(d:sZ P w K mg base A outer s H)(C:mW base f c name qual params body scope cs ws cl doc pm ct)(hl:vs.length=ps.length)(r:Vals vs us)(B:h1.Ns s.heap.objs.size (λx=>(ps.zip us).reverse.lookup x))(l:∀b o,s.heap.get? b=some o->h1.get? b=some o):Inv (sP CX P w K mg base (ps++cs) qual scope f c cl A outer s H E) [] (vs.map some++ws.map some) H {s with heap:=h1,toks:=t1}:=by
 have n:∀b:Addr,b∉(sP CX P w K mg base (ps++cs) qual scope f c cl A outer s H E).ex:=λb z=>absurd (show b∈([]:List Addr)from z) (by simp);have cellOf:∀x a,cl.lookup x=some a->∃u,base.IsCell a (some u):=λx a e=>by obtain⟨i,hi⟩:=List.mem_iff_getElem?.mp (C.own x a e);obtain⟨v,J,u,_,j,_,k⟩:=C.cell i x hi;rw[e]at j;cases j;exact⟨u,k⟩
 have up:∀{a:Addr}{v:Option Value},base.IsCell a v->h1.IsCell a v:=λ⟨o,ho,hd⟩=>⟨o,l _ _ (d.bs _ _ ho).1,hd⟩;refine⟨⟨d.mod,S.kind,rfl,rfl,zQ04 _,C.inj,λy h=>?_,λy c z=>(by cases z),λ_=>d.hdl.R9,Around.frames_deeper d.frames, .inr ⟨rfl,rfl⟩,λb z=>absurd z (n b),d.bs,d.uF,λb _ _=>n b,λb z=>absurd z (n b),d.eS,d.zT⟩,rfl,d.bare,Un.kept l,⟨_,B,λi y v g h2 h3=>?_⟩,λy a e=>?_,d.bc.fresh (zQ04 _),λy a e=>?_,λp D=>absurd (show p∈([]:List (Addr×Obj))from D) (by simp),d.bc.kept l,?_⟩
 ·have h:scope.names.lookup y=some .cell\/scope.names.lookup y=some .free:=h;rcases h with h|h;·exact absurd rfl (S.jP _ (PySem.mem_of_lookup h))
  ·obtain⟨i,hi⟩:=List.mem_iff_getElem?.mp (S.all y h);obtain⟨v,a,u,_,j,_⟩:=C.cell i y hi;exact⟨a,j⟩
 ·have g:(ps++cs)[i]?=some y:=g;by_cases hi:i<ps.length;·rw[uT hi]at g;rw[uT (by rw[cT];lia),fU]at h2;obtain⟨I,m,e⟩:=Option.map_eq_some_iff.mp h2;cases e;obtain⟨u,F,G⟩:=r.get m;have nd:=(List.nodup_append.mp S.nd).1;exact⟨u,G, .inl ⟨S.par y (List.mem_of_getElem? g),Bl nd g F⟩⟩
  ·rw[List.getElem?_append_right (by lia)]at g;rw[List.getElem?_append_right (by rw[cT];lia),cT,hl,fU]at h2;obtain⟨I,m,e⟩:=Option.map_eq_some_iff.mp h2;cases e;obtain⟨L,a,u,q,j,t,k⟩:=C.cell _ y g;rw[m]at q;cases q;exact⟨u,t, .inr ⟨.inr (S.free y (List.mem_of_getElem? g)),a,j,up k⟩⟩
 ·obtain⟨u,k⟩:=cellOf y a e;exact⟨_,up k⟩
 ·obtain⟨u,o,ho,_⟩:=cellOf y a e;exact(d.bs _ _ ho).2
 ·show(vs.map some++ws.map some).length=(ps++cs).length;rw[fK,fK,cT,cT,hl,C.len]
theorem Dw{CX:lC}{P:Program}{w:World}{K:PySem.W.Frag}{mg:Str->Option Value}{base:Heap}{k:Nat}{ps cs:List Str}{name qual:Str}{params:Arguments}{body:List Stmt}{scope:Scope}{f c:Addr}{cl:List (Str×Addr)}{doc pm ct:Value}{A:Around}{outer:List Env}{s:Shared}{H:Hp}{Q:VK}{E:XK}{us:List Value}{vs ws:List V}(S:eV ps cs scope)(d:sZ P w K mg base A outer s H)(hr:cx (k+1) A)(C:mW base f c name qual params body scope cs ws cl doc pm ct)(hc:H c=some (fi qual))(hl:vs.length=ps.length)(r:Vals vs us)(hb:BindsTo s (PySem.W.fnX name qual params body scope cl .none .none doc pm none (.ref c) ct) ⟨us,[]⟩ (ps.zip us))(i:cx k (A.deeper (ie qual scope s.heap.objs.size f c cl))->∃t,fY (sP CX P w K mg base (ps++cs) qual scope f c cl A outer s H E) body t/\t {nx:=λ_ H'=>Q .a_ H',rt:=Q} (vs.map some++ws.map some) H):codeAny (model P w) A (.call (.ref f) ⟨us,[]⟩) (CR CX A.handled outer P w H s Q E) s:=by have p:s.heap.NoLimit:=d.mod.nolimit.keeps λb o e=>(d.bs b o e).1;have j:s.heap.CodeRec (.ref c) qual:=(show bC P w H s.heap c (fi qual)from d.bc c _ hc);refine codeAny_call_def (fd:=PySem.W.fnX name qual params body scope cl .none .none doc pm none (.ref c) ct) (body:=body) (binds:=ps.zip us) hr.depth (d.bs _ _ C.fo).1 rfl p j rfl hb S.jP (λy n=>S.par y.1 (List.of_mem_zip n).1) (λh₁ m l=>?_) S.co S.gen S.kind;obtain⟨t,ht,hq⟩:=i (hr.deeper _);have I:=EH (CX:=CX) (E:=E) (t1:=s.toks+(ps.zip us).length) S d C hl r m l;refine d9 (ht [] _ _ H _ I hq) (λfl s' a=>?_) λe s' a=>a;have fin:∀{g:L2.St}{H':Hp}{v:V}{u:Value},Inv (sP CX P w K mg base (ps++cs) qual scope f c cl A outer s H E) [] g H' s'->RelV v u->Q v H'->CE outer P w H s Q u s':=λ{g H' v u}J h q=>⟨v,H',J.os,J.bare,J.base,J.bc,h,q⟩;cases fl with|ret u=>obtain⟨v,g,H',J,h,q⟩:=a;exact fin J h q|next=>obtain⟨g,H',J,q⟩:=a;exact fin (v:=V.a_) (u:=Value.none) J rfl q|brk=>obtain⟨_,_,_,q⟩:=a;exact False.elim q|cont=>obtain⟨_,_,_,q⟩:=a;exact False.elim q
def dU(H:Hp)(T:Addr)(qual:Str)(a:Pos):Prop:=H T=some (.m_ (.tab qual (rawInt a.line) (rawInt a.col)))
theorem dU.mono{H H':Hp}{T:Addr}{qual:Str}{a:Pos}(x:dU H T qual a)(s:aK H H'):dU H' T qual a:=s _ _ x
def yf(K:PySem.W.Frag)(a T:Addr):Prop:=PySem.W.codeHdIn K a T=true
theorem ko{K:PySem.W.Frag}{mg:Str->Option Value}{base h:Heap}{T:Addr}{ps:Array Value}(M:Mod K mg base)(k:∀b o,base.get? b=some o->h.get? b=some o)(hT:h.get? T=some (PySem.W.tabObj ps)):mainGlobals≠T/\h.BuiltinsAt mg T:=by
 obtain⟨bm,ob,f,g,a,d,i,c⟩:=M.bm;obtain⟨o,es,ep,e,hd,_⟩:=M.glob;have e:=k _ _ e;have a:=k _ _ a;refine⟨λq=>?_,bm,ob,f,g,λq=>?_,λq=>?_,a,d,i,c⟩;·rw[q,hT]at e;cases e;cases hd
 ·rw[q,e]at a;cases a;rw[hd]at c;cases c
 ·rw[q,hT]at a;cases a;cases d
noncomputable abbrev qx(X:Cx)(f:Addr)(fo:Obj):Cx:={X with pn:=(f,fo)::X.pn}
section
variable{X:Cx}{pins:List (Addr×Obj)}{σ:L2.St}{H:Hp}{s:Shared}{f:Addr}{fo:Obj}
theorem sT{base:Heap}{pn b:List (Addr×Obj)}{A:Around}(h:Og base pn A)(g:∀q∈pn,q∈b):Og base b A:=by
 rcases h with h|⟨a,oe,vs,c,d,e⟩;·exact .inl h
 ·exact .inr ⟨a,oe,vs,c,d.imp id (g _),e⟩
theorem LU(ok:X.Ok):(qx X f fo).Ok:=⟨ok.mod,ok.kind,ok.glob,ok.blt,ok.above,ok.inj,ok.has,ok.C7,λh=>sT (ok.hd h) λq hq=>c_ _ hq,ok.frames,ok.Gm,ok.GF,ok.bs,ok.uF,ok.mS,ok.nI,ok.eS,ok.zT⟩
theorem MS(I:Inv X pins σ H s)(e:s.heap.get? f=some fo)(b:H f=none)(c:f≠X.env.locals)(d:f∉X.fs)(g:∀v,fo.data≠ .cell v):Inv (qx X f fo) pins σ H s:=by
 refine⟨LU I.ok,I.os,I.bare,I.base,I.loc,I.cell,I.free,I.cX,λp a=>?_,I.bc,I.len⟩;rcases List.mem_cons.mp (show p∈(f,fo)::(X.pn++pins)from a)with z|z;·rw[z];exact⟨e,b,c,d,g⟩
 ·exact I.pin p z
theorem mQ(ok:X.Ok)(I:Inv (qx X f fo) pins σ H s):Inv X pins σ H s:=⟨ok,I.os,I.bare,I.base,I.loc,I.cell,I.free,I.cX,λp a=>I.pin p (c_ _ a),I.bc,I.len⟩
theorem KG(ok:X.Ok){D:Ends}{fl:Flow}(h:SP (qx X f fo) pins D fl s):SP X pins D fl s:=by cases fl with|next=>obtain⟨a,H',I,q⟩:=h;exact⟨a,H',mQ ok I,q⟩|brk=>obtain⟨a,H',I,q⟩:=h;exact⟨a,H',mQ ok I,q⟩|cont=>obtain⟨a,H',I,q⟩:=h;exact⟨a,H',mQ ok I,q⟩|ret u=>obtain⟨v,a,H',I,r,q⟩:=h;exact⟨v,a,H',mQ ok I,r,q⟩
end
noncomputable abbrev jN(name qual:Str)(params:Arguments)(body:List Stmt)(scope:Scope)(cl:List (Str×Addr))(doc pm:Value)(c:Addr)(ct:Value):Obj:={cls:= .type "function",data:= .func (PySem.W.fnX name qual params body scope cl .none .none doc pm none (.ref c) ct)}
noncomputable def QZ(i:Nat)(T:Addr)(qual:Str)(a:Pos)(t:Addr->Addr->Value->Value->Value->TS):TS:=λD σ H=>dU H T qual a/\∀(f c:Addr)(doc pm ct:Value)(H':Hp),aK H H'->H' c=some (fi qual)->t f c doc pm ct D (σ.set i (some (.ref f))) H'
theorem LN{fs ex:List Addr}{H:Hp}{h h':Heap}{T c:Addr}{ps:Ed}{o:HO}(hT:H T=some (.m_ ps))(hc:H c=none)(e:h.objs.size<=c)(k:∀b u,b≠T->h.get? b=some u->h'.get? b=some u)(d:∃u,h'.get? T=some u):Un fs ex H (upd H c o) h h':=by
 have a:∀b,H b=none->b≠T:=λb n z=>by rw[z,hT]at n;cases n
 refine⟨λb u q n _ _=>k b u (a b n) q,λb u q n _ _=>⟨u.slots,k b u (a b n) q⟩,λb u q n _=>?_,λb u q _=>?_,λb xs q=>?_,λb u xs q=>?_,λb f q=>?_⟩;·rw[aI (zQ18 (dQ (zQ05 q) e))];exact n
 ·by_cases z:b=T;·rw[z];exact d
  ·exact⟨u,k b u z q⟩
 all_goals rw[aI (aA q hc)];exact q
theorem wV{X:Cx}{i:Nat}{r T:Addr}{name qual:Str}{params:Arguments}{body:List Stmt}{scope:Scope}{g:Pos}{rest:List Stmt}{cl:List (Str×Addr)}{t:Addr->Addr->Value->Value->Value->TS}(N:yf X.K r T)(C:X.env.code= .ref r)(S:X.N.Nodup)(hi:X.N[i]?=some name)(J:X.env.scope.names.lookup name=some .local)(hq:qualnameIn X.env name name=qual)(hcl:closureFor scope X.env=pure cl)(hr:∀(f c:Addr)(doc pm ct:Value),fY (qx X f (jN name qual params body scope cl doc pm c ct)) rest (t f c doc pm ct))(Y:params.defaults=[]:=by rfl)(UW:params.kw_defaults=[]:=by rfl)(ha:annTrees params none X.env=[]:=by rfl):fY X (.FunctionDef name params body [] none [] scope none name g::rest) (QZ i T qual g t):=by
 intro pins s σ H D I h;obtain⟨hT,h⟩:=h;have K:∀(f c:Addr)(doc pm ct:Value)(H':Hp)(s1:Shared),Inv X pins σ H' s1->s1.heap.get? f=some (jN name qual params body scope cl doc pm c ct)->H' f=none->f≠X.env.locals->f∉X.fs->aK H H'->H' c=some (fi qual)->wpAny (model X.prog X.w) X.A (storeName X.env name (.ref f)) (λ_ s2=>wpAny (model X.prog X.w) X.A (execs rest X.env) (SP X pins D) X.xe s2) X.xe s1:=λf c doc pm ct H' s1 l O P Q R sx hc=>by have L:=MS (fo:=jN name qual params body scope cl doc pm c ct) l O P Q R (λv z=>by cases z);refine iZ (X:=qx X f (jN name qual params body scope cl doc pm c ct)) (i:=i) (v:= .ref f) L S hi (.inl J) rfl (λs2 M=>?_) (.inr J);exact d9 (hr f c doc pm ct pins s2 _ H' D M (h f c doc pm ct H' sx hc)) (λfl s3 q=>KG I.ok q) λ_ _ z=>z
 have KX:=I.jo;have E:s.heap.Ns mainGlobals X.mg:=I.mod.glob.keeps I.bk;obtain⟨m,⟨oL,Wz,Wj,HX,_⟩,_⟩:=id I.loc;have G:X.env.locals<s.heap.objs.size:=zQ05 HX;have A:∀b:Addr,s.heap.objs.size<=b->b∉X.fs:=λb hb hm=>by obtain⟨_,o',ho,_⟩:=I.eS.mem hm;exact absurd (zQ05 ho) (Nat.not_lt.mpr hb)
 have hd:PySem.W.CodeHd s.heap r T:=PySem.W.codeHd_of_K KX N;refine wpAny_execs_cons (PySem.W.nestDef_K Y UW ha ?_);rw[hq];rcases(show bC X.prog X.w H s.heap T (.m_ (.tab qual (rawInt g.line) (rawInt g.col)))from I.bc T _ hT)with d|⟨c,d,hc⟩
 ·have d:s.heap.get? T=some (PySem.W.tabObj #[]):=d;obtain⟨hne,x⟩:=ko I.mod I.bk d;refine PySem.W.makeFunction_K hcl I.ok.glob E C hd d trivial rfl hne x λa k doc h' tk RZ y hlt Pa U=>?_;have p:H a=none:=I.bc.fresh y;have F:∀b u,b≠T->s.heap.get? b=some u->(h'.push (PySem.W.fnMade name qual params body scope cl doc ((X.mg "__name__").getD .none) a k)).get? b=some u:=λb u n e=>zQ01 _ (RZ b u n e);have B:(h'.push (PySem.W.fnMade name qual params body scope cl doc ((X.mg "__name__").getD .none) a k)).get? T=some (PySem.W.tabObj (#[]++#[rawInt g.line,rawInt g.col, .ref a])):=zQ01 _ U;have WM:T≠a:=aA hT p;have W:=Pa.push (PySem.W.fnMade name qual params body scope cl doc ((X.mg "__name__").getD .none) a k);have D3:fL X.prog X.w (upd H a (fi qual)) (h'.push (PySem.W.fnMade name qual params body scope cl doc ((X.mg "__name__").getD .none) a k)):=λb u e=>by
   by_cases hb:b=a;·rw[hb,aj]at e;cases e;rw[hb];exact W
   ·rw[aI hb]at e;by_cases w:b=T;·rw[w,hT]at e;cases e;rw[w];exact .inr ⟨a,B,aj⟩
    ·have VH:∀c2,H c2=some (.own b)->c2≠T:=λc2 q z=>by rw[z,hT]at q;cases q
     refine(I.bc b u e).nF (λc2 o V q=>F c2 o ?_ q) (λc2 q=>?_) λc2 xs q=>?_
     ·rcases V with rfl|q2;·exact w
      ·exact VH _ q2
     ·rw[aI (aA q p)];exact q
     ·rw[aI (aA q p)];exact q
  have l:=I.un (t':=tk) (LN (o:=fi qual) hT p y F ⟨_,B⟩) D3;have j:s.heap.objs.size<=h'.objs.size:=cu y (Nat.le_of_lt hlt);refine K h'.objs.size a _ _ _ _ _ l (zQ06 _ rfl) ?_ (Nat.ne_of_gt (dQ G j)) (A _ j) (λb o e=>?_) aj;·rw[aI (Nat.ne_of_gt hlt)];exact I.bc.fresh j
  ·rw[aI (aA e p)];exact e
 ·have d:s.heap.get? T=some (PySem.W.tabObj #[rawInt g.line,rawInt g.col, .ref c]):=d;obtain⟨hne,x⟩:=ko I.mod I.bk d;refine PySem.W.makeFunction_hit (cv:= .ref c) hcl I.ok.glob E C hd d ?_ ?_ x λk doc h' tk Z j=>?_;·simp[TriplesOk,rawInt]
  ·simp[codeAmong,rawInt]
  have l:=I.kept (h':=h'.push {cls:= .type "function",data:= .func (PySem.W.fnX name qual params body scope cl .none .none doc ((X.mg "__name__").getD .none) none (.ref c) k)}) (t':=tk) λb u e=>zQ01 _ (Z b u e);exact K h'.objs.size c _ _ _ _ _ l (zQ06 _ rfl) (I.bc.fresh j) (Nat.ne_of_gt (dQ G j)) (A _ j) (λb o e=>e) hc
noncomputable def my(P:Program)(w:World)(K:PySem.W.Frag)(mg:Str->Option Value)(CX:lC)(x:Str)(k:Nat)(ps:List Str)(sp:Heap->Sp):Prop:=∃f fd,(∀base,g8 P w K mg base CX k f fd ps (sp base))/\mg x=some (.ref f)/\PySem.W.keepIn K (.ref f)=true/\Binds K fd ps []
section
variable{P:Program}{w:World}{K:PySem.W.Frag}{mg:Str->Option Value}
theorem Df.VI{x:Str}{st:Stmt}{N ps:List Str}{k:Nat}{sp:Heap->Sp}(D:Df K mg x st ps)(S:aP N ps (ao st))(len:∀base vs H Q E,sp base vs H Q E->vs.length=ps.length)(a:∀(base:Heap)(f:Addr)(cS:Value)(A:Around)(outer:List Env)(s:Shared)(H:Hp)(vs:List V)(Q:VK)(E:XK),cx k (A.deeper (envOfC x (ao st) s.heap.objs.size f cS))->sp base vs H Q E->∃t,fY (dW bW P w K mg base N x (ao st) f cS A outer s H E).Ez (bM st) t/\t {nx:=λ_ H'=>Q .a_ H',rt:=Q} (start N vs) H):my P w K mg bW x (k+1) ps sp:=by obtain⟨f,fd,F,m,b⟩:=D;exact⟨f,fd,λbase=>F.ok S (len base) (a base f),m,F.kp,b⟩
theorem my.never{x:Str}{st:Stmt}{ps:List Str}{sp:Heap->Sp}{k:Nat}{CX:lC}(D:Df K mg x st ps)(no:∀base vs H Q E,¬sp base vs H Q E):my P w K mg CX x k ps sp:=by obtain⟨f,fd,F,m,b⟩:=D;exact⟨f,fd,λbase=>⟨λvs H Q E h=>absurd h (no base vs H Q E),λA outer s H args us vs Q E _ _ _ _ h=>absurd h (no base vs H Q E)⟩,m,F.kp,b⟩
end
structure vm(X:Cx)(σ:L2.St)(b':Heap):Prop where
 old:∀b o,X.base.get? b=some o->b'.get? b=some o
 pin:∀q∈X.pn,b'.get? q.1=some q.2
 cell:∀(i:Nat)(x:Str)(v:V),X.N[i]?=some x->σ[i]?=some (some v)->X.env.kindOf x=some .cell->X.fn x=true->∃c u,X.env.cells.lookup x=some c/\RelV v u/\b'.IsCell c (some u)
theorem vc{X:Cx}{pins:List (Addr×Obj)}{σ:L2.St}{H:Hp}{s:Shared}(I:Inv X pins σ H s):vm X σ (pW s.heap H (gu X.stack)):=by
 have f:∀b o,X.base.get? b=some o->b∉gu X.stack:=λb o e z=>by
  rcases List.mem_cons.mp (I.eH b z)with z|z;·have :=zQ05 e;rw[z]at this;exact absurd this (Nat.not_lt.mpr (cu I.ok.uF I.ok.above))
  ·exact I.ok.JF e z
 refine⟨λb o e=>gm (I.bs b o e).1 (I.bs b o e).2 (f b o e),λq hq=>?_,λi x v h1 h2 h3 h4=>?_⟩
 ·obtain⟨q1,q2,q3,q4,_⟩:=I.pin q (jy _ hq);refine gm q1 q2 λz=>?_;rcases List.mem_cons.mp (I.eH _ z)with z|z;·exact q3 z
  ·exact q4 z
 ·obtain⟨m,hn,hl⟩:=I.loc;obtain⟨u,r,l⟩:=hl i x v h1 h2 (.inr (.inl h3));rcases l with⟨a,_⟩|⟨_,c,hc,o,ho,hd⟩;·rw[h3]at a;cases a
  ·refine⟨c,u,hc,r,o,gm ho (I.cX x c hc) λz=>?_,hd⟩;rcases List.mem_cons.mp (I.eH _ z)with z|z;·exact I.FG x c hc z
   ·obtain⟨_,o',d,_⟩:=I.ok.eS.mem z;exact absurd (zQ05 d) (Nat.not_lt.mpr (I.ok.C7 x c h4 hc))
noncomputable def Jo(X:Cx)(sp:Heap->Sp)(E:XK)(t:TA):TE:=λσ H Q=>t σ H λvs a=>∀b',vm X σ b'->sp b' vs a Q E
theorem Aq{X:Cx}{CX:lC}{x:Str}{k:Nat}{ps:List Str}{sp:Heap->Sp}{E:XK}{e:Expr}{es:List Expr}{t:TA}{p d:Pos}(F:my X.prog X.w X.K X.mg CX x k ps sp)(hr:cx k X.A)(j:Gl X x)(n:Passes CX X E)(ha:PA X (e::es) t)(i:(x==("__debug__":Str))=false:=by decide)(he:starEach (e::es) X.env=(false,eval e X.env)::starEach es X.env:=by rfl)(l:(backTo d (starEach es X.env)).any (·.1)=false:=by rfl)(hc:X.calm=true:=by rfl):PE X (.Call (.Name x p) (e::es) [] d) (Jo X sp E t):=by
 obtain⟨f,fd,F,m,kp,b⟩:=F;intro pins s σ H Q I h;refine nK (iK I j m ?_ i);refine PySem.W.callWith_K (h₀:=X.base) I.ok.mod.AS kp (bw (ha d pins s σ H _ I h) λus s1⟨vs,c,a,r,q⟩=>⟨a.jo,?_⟩) he l;have q:=q _ (vc a);have hl:us.length=ps.length:=by rw[<-r.length];exact(F (pW s1.heap c (gu X.stack))).len _ _ _ _ q
 have g:=b s1 us a.jo (by rw[List.append_nil];exact hl);rw[List.append_nil]at g;refine wpAny_call (codeAny_mono ((F _).run X.A X.stack s1 c ⟨us,[]⟩ us vs Q E hr (Du a hc) g r q) λo s' hq=>?_);cases o with|error e=>exact n pins σ c s1 e s' a hq|ok fl=>cases fl with|ret u=>exact a.after hq|next=>exact False.elim hq|brk=>exact False.elim hq|cont=>exact False.elim hq
noncomputable def jr(P:Program)(w:World)(K:PySem.W.Frag)(mg:Str->Option Value)(base:Heap)(k:Nat)(f:Addr)(sp:Sp):Prop:=PySem.W.FnAt f base/\∀(a:Heap),(∀b o,base.get? b=some o->a.get? b=some o)->∀(A:Around)(outer:List Env)(s:Shared)(H:Hp)(us:List Value)(vs:List V)(Q:VK),cx k A->sZ P w K mg a A outer s H->Vals vs us->sp vs H Q E0->codeAny (model P w) A (.call (.ref f) ⟨us,[]⟩) (CR bW A.handled outer P w H s Q E0) s
theorem jr.up{P:Program}{w:World}{K:PySem.W.Frag}{mg:Str->Option Value}{base a:Heap}{k:Nat}{f:Addr}{sp:Sp}(C:jr P w K mg base k f sp)(c:∀b o,base.get? b=some o->a.get? b=some o):jr P w K mg a k f sp:=⟨let⟨oc,od,fd,sl,e⟩:=C.1;⟨oc,od,fd,sl,c _ _ e⟩,λd h=>C.2 d λb o e=>h b o (c b o e)⟩
noncomputable def GP(i:Nat)(f:Addr)(sp:Sp)(t:TA):TE:=λσ H Q=>σ[i]?=some (some (.ref f))/\t σ H λvs a=>sp vs a Q E0
theorem BG{X:Cx}{x:Str}{k i:Nat}{f:Addr}{sp:Sp}{e:Expr}{es:List Expr}{t:TA}{p b:Pos}(C:jr X.prog X.w X.K X.mg X.base k f sp)(hr:cx k X.A)(n:X.N[i]?=some x)(hv:Ml X.env.scope x)(ha:PA X (e::es) t)(w:(x==("__debug__":Str))=false:=by decide)(o:(x==("__classdict__":Str))=false:=by decide)(he:starEach (e::es) X.env=(false,eval e X.env)::starEach es X.env:=by rfl)(y:(backTo b (starEach es X.env)).any (·.1)=false:=by rfl)(hc:X.calm=true:=by rfl):PE X (.Call (.Name x p) (e::es) [] b) (GP i f sp t):=by intro pins s σ H Q I h;obtain⟨D,h⟩:=h;refine nK (d9 (B1 (X:=X) (i:=i) n hv w o pins s σ H (λv H'=>v= .ref f/\H'=H) I ⟨.ref f,D,rfl,rfl⟩) (λu G A=>?_) λ_ _ z=>z);obtain⟨v,l,c,F,rfl,rfl⟩:=A;cases(show u=Value.ref f from F);have d:∀{g:List (Addr×Obj)}{j:L2.St}{H':Hp}{s':Shared},Inv X g j H' s'->PySem.W.FnAt f s'.heap:=λ{g j H' s'}J=>let⟨oc,od,fd,sl,e⟩:=C.1;⟨oc,od,fd,sl,(J.bs _ _ e).1⟩;refine PySem.W.callWith_F (d c) (bw (ha b pins G σ l _ c h) λus s1⟨vs,m,a,r,q⟩=>⟨d a,?_⟩) he y;have B:=vc a;refine wpAny_call (codeAny_mono (C.2 _ B.old X.A X.stack s1 m us vs Q hr (Du a hc) r q) λE s' hq=>?_);cases E with|error e=>exact hq.elim|ok fl=>cases fl with|ret u=>exact a.after hq|next=>exact False.elim hq|brk=>exact False.elim hq|cont=>exact False.elim hq
noncomputable abbrev Ac:=List (Addr×Addr×Ed)
structure TabsOk(K:PySem.W.Frag)(h:Heap)(ts:Ac):Prop where
 emp:∀q∈ts,h.get? q.2.1=some (PySem.W.tabObj #[])
 hd:∀q∈ts,PySem.W.codeHdIn K q.1 q.2.1=true
 out:∀q∈ts,K.lookup q.2.1=none
 tab:∀q∈ts,∃x l c,q.2.2= .tab x l c
noncomputable def Iw(K:PySem.W.Frag)(a:Addr)(o:Obj)(xs:List V)(ts:Ac):Hp:=λb=>if b=a/\K.lookup a=none then some (.uM o (.lst xs))else((ts.map (·.2)).lookup b).map HO.m_
theorem Dl{K:PySem.W.Frag}{h:Heap}{c T:Addr}(X:K.In h)(e:PySem.W.codeHdIn K c T=true):isCodeTable h T:=by obtain⟨o,vs,f,j,fl,tg,b,n,k,a,d,g,i,_⟩:=PySem.W.codeHd_of_K X e;exact⟨c,o,vs,a,d,g,i⟩
theorem uu{a:Type}:∀{l:List (Addr×a)}{x:Addr}{v:a},l.lookup x=some v->(x,v)∈l
 |[],_,_,h=>by simp at h
 |(y,w)::l,x,v,h=>by
  rw[jc]at h;by_cases e:(x==y)=true;·rw[e]at h;have :=beq_iff_eq.mp e;subst this;cases h;exact cY
  ·rw[show(x==y)=false by simpa using e]at h;exact c_ _ (uu h)
theorem AQ{ts:Ac}{b:Addr}{s:Ed}(e:(ts.map (·.2)).lookup b=some s):∃q∈ts,q.2.1=b/\q.2.2=s:=by have :=uu e;obtain⟨q,hq,z⟩:=List.mem_map.mp this;exact⟨q,hq,by rw[z],by rw[z]⟩
theorem yt{P:Program}{w:World}{K:PySem.W.Frag}{mg mb:Str->Option Value}{k:Nat}{fa a:Addr}{fd:FuncData}{x:Str}{sp:Sp}{s₁:Shared}{vs:List Value}{ns:List Int}{ts:Ac}(KX:K.In s₁.heap)(M:s₁.heap.Ns mainGlobals mg)(hb:s₁.heap.Ns builtinsNs mb)(E:∀x:Str,x≠"__name__"->mb x=bootBuiltins x)(L:s₁.heap.NoLimit)(I:ML mg s₁.heap)(J:s₁.gens=#[])(ha:s₁.heap.get? a=some {cls:= .type "list",data:= .seq vs.toArray})(hi:IntsAre vs ns)(hl:ns.length<=sizeLine)(hr:cx k callerA)(T:TabsOk K s₁.heap ts)(F:∀base:Heap,g8 P w K mg base bW k fa fd [x] sp)(G:∀(s:Shared)(u:Value),BindsTo s fd ⟨[u],[]⟩ [(x,u)])(N:∀H:Hp,(∀q∈ts,(ts.map (·.2)).lookup q.2.1=some q.2.2->H q.2.1=some (.m_ q.2.2))->bO K H a (ns.map V.int)->sp [.ref a] H (λv _=>v= .bl true) E0):codeAny (model P w) callerA (.call (.ref fa) ⟨[.ref a],[]⟩) (λr s'=>r= .ok (.ret (.bool true))/\OldK s₁.heap s'.heap/\s'.os=s₁.os/\AllBare s'.gens) s₁:=by
 have A:=eU hi;have O:=hi.length;let o:Obj:={cls:= .type "list",data:= .seq vs.toArray};let H:=Iw K a o (ns.map V.int) ts;have U:∀q∈ts,q.2.1≠a:=λq hq z=>by have :=T.emp q hq;rw[z,ha]at this;cases this
 have HT:∀q∈ts,(ts.map (·.2)).lookup q.2.1=some q.2.2->H q.2.1=some (.m_ q.2.2):=λq hq e=>by show(if q.2.1=a/\K.lookup a=none then _ else _)=_;rw[if_neg λz=>U q hq z.1,e];rfl
 have only:∀b u,H b=some u->(b=a/\K.lookup a=none/\u= .uM o (.lst (ns.map V.int)))\/∃q∈ts,q.2.1=b/\u= .m_ q.2.2:=λb u e=>by
  have e:(if b=a/\K.lookup a=none then some (.uM o (.lst (ns.map V.int)))else((ts.map (·.2)).lookup b).map HO.m_)=some u:=e;by_cases hb:b=a/\K.lookup a=none;·rw[if_pos hb]at e;exact .inl ⟨hb.1,hb.2,(Option.some.inj e).symm⟩
  ·rw[if_neg hb]at e;obtain⟨s,i,f⟩:=Option.map_eq_some_iff.mp e;obtain⟨q,hq,r1,r2⟩:=AQ i;exact .inr ⟨q,hq,r1,by rw[r2,f]⟩
 have objs:∀b u,H b=some u->(b=a)\/s₁.heap.get? b=some (PySem.W.tabObj #[]):=λb u e=>by
  rcases only b u e with⟨z,_⟩|⟨q,hq,z,_⟩;·exact .inl z
  ·exact .inr (by rw[<-z];exact T.emp q hq)
 have free:∀{b:Addr}{ob:Obj},s₁.heap.get? b=some ob->ob.data≠ .seq vs.toArray->ob.data≠ .fields #[]->H b=none:=λ{b ob}e R S=>by
  cases q:H b with
   |none=>rfl
   |some u=>
    rcases objs b u q with z|z;·rw[z,ha]at e;cases e;exact absurd rfl R
    ·rw[e]at z;cases z;exact absurd rfl S
 have p:∀{b:Addr}{m:Str->Option Value},s₁.heap.Ns b m->(pJ s₁.heap H).Ns b m:=λ{b m}⟨ob,es,ep,e,d,r⟩=>⟨ob,es,ep,iU e (free e (by rw[d];simp) (by rw[d];simp)),d,r⟩;have C:K.In (pJ s₁.heap H):=λb ob e=>iU (KX b ob e) (by
  cases q:H b with
   |none=>rfl
   |some u=>
    rcases only b u q with⟨z,Y,_⟩|⟨g,hq,z,_⟩;·rw[z,Y]at e;cases e
    ·rw[<-z,T.out g hq]at e;cases e);have bc:fL P w H s₁.heap:=λb u e=>by
  rcases only b u e with⟨z,_,rfl⟩|⟨q,hq,z,rfl⟩;·rw[z];exact⟨ha,by rw[cT];exact hl,vs,_,A,ha⟩
  ·obtain⟨X,l,c,ex⟩:=T.tab q hq;rw[ex];exact .inl (by rw[<-z];exact T.emp q hq)
 have hS:bO K H a (ns.map V.int):=by cases n:K.lookup a with|none=>refine .inl (.inr ⟨o,?_⟩);show(if a=a/\K.lookup a=none then _ else _)=_;rw[if_pos ⟨rfl,n⟩]|some ob=>have e:=KX a ob n;rw[ha]at e;cases e;exact .inr ⟨_,vs.toArray,_,n,rfl,rfl,rfl,by rw[cG,O];exact hl,by simpa using A⟩
 have D:Mod K mg (pJ s₁.heap H):=⟨C,p M,⟨mb,p hb,E⟩,let⟨Q,h1,h2⟩:=L;⟨Q,p h1,h2⟩,let⟨bm,ob,i,f,t,j⟩:=I;⟨bm,ob,i,f,iU t (free t (by rw[j.2.2];simp) (by rw[j.2.2];simp)),j⟩⟩;have B:sZ P w K mg (pJ s₁.heap H) callerA [] s₁ H:=⟨rfl,D,λb ob e=>wm e,Nat.le_of_eq (oG _ _),trivial,λb hb=>absurd (show b∈([]:List Addr)from hb) (by simp),bc, .of_eq J, .inl rfl⟩;refine codeAny_mono ((F _).run callerA [] s₁ H ⟨[.ref a],[]⟩ [.ref a] [.ref a] _ _ hr B (G s₁ (.ref a)) (.cons rfl .nil) (N H HT hS)) λr s' h=>?_;cases r with
  |error e=>exact(show False from h).elim
  |ok fl=>
   cases fl with
    |next=>exact False.elim h
    |brk=>exact False.elim h
    |cont=>exact False.elim h
    |ret u=>
     obtain⟨v,H',os,bare,un,y,W,q⟩:=h;have g:v= .bl true:=q;subst g;obtain rfl:u=Value.bool true:=W;refine⟨rfl,⟨λb ob e=>?_,λb ob e=>un.there b ob e (by simp)⟩,os,bare⟩;cases q:H b with
      |none=>exact .inl (un.keep b ob e q (by intro z;exact absurd (show b∈([]:List Addr)from z) (by simp)) (by simp))
      |some u=>
       rcases only b u q with⟨z,_,rfl⟩|⟨g,hq,z,rfl⟩;·obtain⟨f,_⟩:=y b _ (un.mL b o _ q);rw[z,ha]at e;cases e;exact .inl f
       ·obtain⟨X,l,c,ex⟩:=T.tab g hq;have em:=T.emp g hq;rw[z,e]at em;cases em;rw[ex]at q;rcases y b _ (un.lL b _ q)with f|⟨Z,f,_⟩;·exact .inl f
        ·exact .inr (.inl ⟨by rw[<-z];exact Dl KX (T.hd g hq),rfl,#[],_,rfl,by rw[Array.empty_append];exact f⟩)
theorem Bm{l:PySem.W.OpenLaw}{n k:Nat}{q:Program}{loose:List Str}{XP:(Str->Option Value)->Heap->Prop}{YP:World->Heap->Prop}{d:DefRec}{K:Params->PySem.W.Frag}{sp:World->Sp}{x:Str}{ts:Ac}(hn:l.most=some n)(j:n<=sizeLine)(g:d.params.defaults=[])(hr:cx k callerA)(e:∀(w:World)(h:Heap),YP w h->(K w.params).In h)(hT:∀(w:World)(h:Heap),YP w h->TabsOk (K w.params) h ts)(F:∀(w:World)(mg:Str->Option Value)(fa:Addr)(h:Heap),(K w.params).In h->h.Ns mainGlobals mg->mg d.name=some (.ref fa)->∃fd:FuncData,(∀(s:Shared)(u:Value),BindsTo s fd ⟨[u],[]⟩ [(x,u)])/\∀base:Heap,g8 l.prog w (K w.params) mg base bW k fa fd [x] (sp w))(p:∀(w:World)(H:Hp)(a:Addr)(ns:List Int),ns.length<=n->(∀q∈ts,(ts.map (·.2)).lookup q.2.1=some q.2.2->H q.2.1=some (.m_ q.2.2))->bO (K w.params) H a (ns.map V.int)->sp w [.ref a] H (λv _=>v= .bl true) E0):PySem.W.WalkO q loose XP YP l.row.toRowW d [] (λf vs=>PySem.call f vs):=by refine SK.uD hn g λw bG s₁ mg mb fa o pm cd doc a vs ns G Y ho hd r hmg m hints hlen i=>?_;have KX:=e w _ Y;obtain⟨fd,hb,b⟩:=F w mg fa _ KX G.T.g hmg;exact yt KX G.T.g G.T.b G.T.builtins G.T.nolimit G.T.bmain i m hints (cu hlen j) hr (hT w _ Y) b hb λH c hS=>p w H a ns hlen c hS
def UQ(K:PySem.W.Frag)(f T:Addr):Prop:=∃oc od fd uJ a,K.lookup f=some ⟨oc,od, .func fd,uJ⟩/\fd.code= .ref a/\yf K a T
def Jp(K:PySem.W.Frag)(mg:Str->Option Value)(x:Str)(st:Stmt)(ps:List Str)(T:Addr):Prop:=∃f fd,yO K x x st f fd/\mg x=some (.ref f)/\Binds K fd ps []/\UQ K f T
theorem Jp.ok{P:Program}{w:World}{K:PySem.W.Frag}{mg:Str->Option Value}{x:Str}{st:Stmt}{N ps:List Str}{k:Nat}{sp:Sp}{T:Addr}(D:Jp K mg x st ps T)(S:aP N ps (ao st))(len:∀vs H Q E,sp vs H Q E->vs.length=ps.length)(e:∀(base:Heap)(f a:Addr)(A:Around)(outer:List Env)(s:Shared)(H:Hp)(vs:List V)(Q:VK)(E:XK),yf K a T->cx k (A.deeper (envOfC x (ao st) s.heap.objs.size f (.ref a)))->sp vs H Q E->∃t,fY (dW bW P w K mg base N x (ao st) f (.ref a) A outer s H E).Ez (bM st) t/\t {nx:=λ_ H'=>Q .a_ H',rt:=Q} (start N vs) H):bZ P w K mg bW x (k+1) ps sp:=by obtain⟨f,fd,F,m,b,n⟩:=D;refine⟨f,fd,λbase=>?_,m,F.kp,b⟩;obtain⟨oc,od,kV,doc,pm,an,cS,ct,uJ,rfl,c,g⟩:=F.ex;obtain⟨o,p,l,r,a,d,hc,j⟩:=n;rw[c]at d;cases d;have hc:cS= .ref a:=hc;subst hc;exact wF c g S len λA outer s H vs Q E hr i=>let⟨t,h,q⟩:=e base f a A outer s H vs Q E j hr i;⟨t,h.Ez,q⟩
theorem Cu{K:PySem.W.Frag}{mg:Str->Option Value}{h:Heap}{x:Str}{st:Stmt}{ps:List Str}{c T:Addr}(D:Df K mg x st ps)(X:K.In h)(G:h.Ns mainGlobals mg)(ht:PySem.W.tabIn K x=some (c,T))(hd:PySem.W.codeHdIn K c T=true):Jp K mg x st ps T:=by obtain⟨f,fd,F,m,b⟩:=D;obtain⟨oc,od,kV,doc,pm,an,cS,ct,uJ,rfl,a,d⟩:=id F.ex;exact⟨f,_,F,m,b,oc,od,_,uJ,c,a,PySem.W.law_code X G ht m (X _ _ a) rfl,hd⟩
noncomputable def Bi(s:Stmt):Pos:=match s with| .FunctionDef _ _ _ _ _ _ _ _ _ p=>p|_=>⟨0,0,0,0⟩
noncomputable def Cw(ps cs:List Str)(names:List (Str×NameKind)):Bool:=names.all (λy=>y.2 != .cell&&(y.2 != .free||cs.contains y.1))&&ps.all (λx=>names.lookup x==some .local)&&cs.all (λx=>names.lookup x==some .free)&&decide (ps++cs).Nodup
theorem jR{ps cs:List Str}{scope:Scope}(h1:scope.kind= .function)(h2:scope.isCoroutine=false)(h3:scope.isGenerator=false)(h:Cw ps cs scope.names=true):eV ps cs scope:=by
 unfold Cw at h;simp only[cw,List.all_eq_true,decide_eq_true_eq]at h;obtain⟨⟨⟨a,b⟩,c⟩,d⟩:=h;refine⟨h1,h2,h3,λy g=>?_,λx f=>?_,d,λx f=>?_,λx e=>?_⟩;·simpa using(a y g).1
 ·simpa using b x f
 ·simpa using c x f
 ·have :=(a _ (PySem.mem_of_lookup e)).2;simpa using this
theorem AW{cl:List (Str×Addr)}(nd:(cl.map (·.2)).Nodup):∀x y a,cl.lookup x=some a->cl.lookup y=some a->x=y:=λx y a h1 h2=>by have d:=PySem.mem_of_lookup h1;have e:=PySem.mem_of_lookup h2;obtain⟨i,hi,c⟩:=List.mem_iff_getElem.mp d;obtain⟨j,hj,b⟩:=List.mem_iff_getElem.mp e;have :i=j:=(List.getElem_inj (i:=i) (j:=j) (h₀:=by simpa using hi) (h₁:=by simpa using hj) nd).mp (by rw[List.getElem_map,List.getElem_map,c,b]);subst this;rw[c]at b;exact(Prod.mk.inj b).1
theorem BF{X:Cx}{σ:L2.St}{b':Heap}{f c:Addr}{name qual:Str}{params:Arguments}{body:List Stmt}{scope:Scope}{cl:List (Str×Addr)}{doc pm ct:Value}{cs:List Str}{ws:List V}(B:vm (qx X f (jN name qual params body scope cl doc pm c ct)) σ b')(n:cl.map (·.1)=cs)(o:(cl.map (·.2)).Nodup)(hl:ws.length=cs.length)(m:∀(i:Nat)(x:Str),cs[i]?=some x->∃(j:Nat)(v:V),ws[i]?=some v/\X.N[j]?=some x/\σ[j]?=some (some v)/\X.env.kindOf x=some .cell/\X.fn x=true/\cl.lookup x=X.env.cells.lookup x):mW b' f c name qual params body scope cs ws cl doc pm ct:=by
 refine⟨B.pin (f,jN name qual params body scope cl doc pm c ct) cY,AW o,λx a e=>?_,λi x e=>?_,hl⟩;·rw[<-n];exact List.mem_map.mpr ⟨_,PySem.mem_of_lookup e,rfl⟩
 ·obtain⟨j,v,b,d,g,h,k,l⟩:=m i x e;obtain⟨a,u,r1,r2,p⟩:=B.cell j x v d g h k;exact⟨v,a,u,b,by rw[l];exact r1,r2,p⟩
theorem xt{P:Program}{w:World}{K:PySem.W.Frag}{mg:Str->Option Value}{base:Heap}{k:Nat}{ps cs:List Str}{name qual:Str}{params:Arguments}{body:List Stmt}{scope:Scope}{f c:Addr}{cl:List (Str×Addr)}{doc pm ct:Value}{ws:List V}{sp:Sp}(S:eV ps cs scope)(C:mW base f c name qual params body scope cs ws cl doc pm ct)(hb:∀us:List Value,us.length=ps.length->bindArgs (PySem.W.fnX name qual params body scope cl .none .none doc pm none (.ref c) ct) ⟨us,[]⟩=pure (ps.zip us))(g:∀vs H Q,sp vs H Q E0->vs.length=ps.length/\H c=some (fi qual))(d:∀(a:Heap)(A:Around)(outer:List Env)(s:Shared)(H:Hp)(vs:List V)(Q:VK),cx k (A.deeper (ie qual scope s.heap.objs.size f c cl))->sp vs H Q E0->∃t,fY (sP bW P w K mg a (ps++cs) qual scope f c cl A outer s H E0) body t/\t {nx:=λ_ H'=>Q .a_ H',rt:=Q} (vs.map some++ws.map some) H):jr P w K mg base (k+1) f sp:=by refine⟨⟨_,_,_,_,C.fo⟩,λa up A outer s H us vs Q hr b r h=>?_⟩;obtain⟨hl,hc⟩:=g vs H Q h;exact Dw S b hr (C.keeps up) hc hl r (.of_eq (hb us (by rw[<-r.length];exact hl))) λe=>d a A outer s H vs Q e h
noncomputable def Hf(base:Heap)(sp:Heap->Sp)(E:XK)(t:TA):TE:=λσ H Q=>t σ H λvs a=>∀b',(∀b o,base.get? b=some o->b'.get? b=some o)->sp b' vs a Q E
theorem IT{X:Cx}{base:Heap}{CX:lC}{x:Str}{k:Nat}{ps:List Str}{sp:Heap->Sp}{E:XK}{e:Expr}{es:List Expr}{t:TA}{p d:Pos}(F:my X.prog X.w X.K X.mg CX x k ps sp)(hr:cx k X.A)(l:Gl X x)(o:Passes CX X E)(ha:PA X (e::es) t)(j:(x==("__debug__":Str))=false:=by decide)(he:starEach (e::es) X.env=(false,eval e X.env)::starEach es X.env:=by rfl)(n:(backTo d (starEach es X.env)).any (·.1)=false:=by rfl)(hc:X.calm=true:=by rfl)(i:X.base=base:=by rfl):PE X (.Call (.Name x p) (e::es) [] d) (Hf base sp E t):=by
 subst i;obtain⟨f,fd,F,m,kp,b⟩:=F;intro pins s σ H Q I h;refine nK (iK I l m ?_ j);refine PySem.W.callWith_K (h₀:=X.base) I.ok.mod.AS kp (bw (ha d pins s σ H _ I h) λus s1⟨vs,c,a,r,q⟩=>⟨a.jo,?_⟩) he n;have q:=q _ (vc a).old;have hl:us.length=ps.length:=by rw[<-r.length];exact(F (pW s1.heap c (gu X.stack))).len _ _ _ _ q
 have g:=b s1 us a.jo (by rw[List.append_nil];exact hl);rw[List.append_nil]at g;refine wpAny_call (codeAny_mono ((F _).run X.A X.stack s1 c ⟨us,[]⟩ us vs Q E hr (Du a hc) g r q) λv s' hq=>?_);cases v with|error e=>exact o pins σ c s1 e s' a hq|ok fl=>cases fl with|ret u=>exact a.after hq|next=>exact False.elim hq|brk=>exact False.elim hq|cont=>exact False.elim hq
theorem Jp.KR{P:Program}{w:World}{K:PySem.W.Frag}{mg:Str->Option Value}{x:Str}{st:Stmt}{N ps:List Str}{k:Nat}{sp:Sp}{T:Addr}(D:Jp K mg x st ps T)(S:aP N ps (ao st))(len:∀vs H Q E,sp vs H Q E->vs.length=ps.length)(e:∀(base:Heap)(f a:Addr)(A:Around)(outer:List Env)(s:Shared)(H:Hp)(vs:List V)(Q:VK)(E:XK),yf K a T->cx k (A.deeper (envOfC x (ao st) s.heap.objs.size f (.ref a)))->sp vs H Q E->∃t,fY (dW (h_ P w) P w K mg base N x (ao st) f (.ref a) A outer s H E) (bM st) t/\t {nx:=λ_ H'=>Q .a_ H',rt:=Q} (start N vs) H):bZ P w K mg (h_ P w) x (k+1) ps sp:=by obtain⟨f,fd,F,m,b,n⟩:=D;refine⟨f,fd,λbase=>?_,m,F.kp,b⟩;obtain⟨oc,od,kV,doc,pm,an,cS,ct,uJ,rfl,c,g⟩:=F.ex;obtain⟨l,o,j,p,a,d,hc,i⟩:=n;rw[c]at d;cases d;have hc:cS= .ref a:=hc;subst hc;exact wF c g S len λA outer s H vs Q E hr h=>e base f a A outer s H vs Q E i hr h
theorem HQ{X:Cx}{f:Addr}{fo:Obj}(e:∀vs,fo.data≠ .fields vs)(ok:(qx X f fo).Ok):X.Ok:=⟨ok.mod,ok.kind,ok.glob,ok.blt,ok.above,ok.inj,ok.has,ok.C7,λh=>by
 rcases ok.hd h with h|⟨a,oe,vs,d,b,c⟩;·exact .inl h
 ·refine .inr ⟨a,oe,vs,d,?_,c⟩;rcases b with b|b;·exact .inl b
  ·rcases List.mem_cons.mp b with z|z;·cases z;exact absurd c.1 (e vs)
   ·exact .inr z,ok.frames,ok.Gm,ok.GF,ok.bs,ok.uF,ok.mS,ok.nI,ok.eS,ok.zT⟩
theorem zG{CX:lC}{X:Cx}{f:Addr}{fo:Obj}{E:XK}(h:Passes CX X E)(a:∀vs,fo.data≠ .fields vs):Passes CX (qx X f fo) E:=λpins σ H s e s' I hc=>h pins σ H s e s' (mQ (HQ a I.ok) I) hc
end L3
end
section
namespace K17
open PySem L2 L3 KM PyProof.Rows
seal L2.PE L2.PS L2.fY L2.PT L2.PW L2.PA L2.PG L2.wN L2.PI L2.PC L2.PO L2.vT L2.PK L3.vW L3.PH L3.PB
variable{P:Program}{w:World}{K:PySem.W.Frag}{mg:Str->Option Value}{base:Heap}{t:uY}
def Am(g:Int->Int->D)(Pre:Hp->Prop):Sp:=λvs H Q _=>∃n b:Int,vs=[.int n, .int b]/\0<=n/\0<=b/\Pre H/\∀(v:V)(H':Hp),aK H H'->Rep H' (g n b) v->Q v H'
structure Ut(P:Program)(w:World)(K:PySem.W.Frag)(mg:Str->Option Value)(base:Heap)(kc:Nat)(f:Addr)(g:Int->Int->D)(Pre:Hp->Prop):Prop where
 U7:jr P w K mg base kc f (Am g Pre)
 st:∀H H',Pre H->aK H H'->Pre H'
noncomputable def fG(x:Str)(i:Nat):Int:=if decide (V.int i=wG x)=true then 1 else 0
theorem dq(x:Str)(i:Nat):0<=fG x i:=by unfold fG;split<;>decide
theorem wH(x:Str)(i:Nat):gS x i= .int (fG x i):=by unfold gS fG;split<;>rfl
noncomputable def bI(g:Int->Int->D):Nat->Int->D->D|n+1,b, .tup (.str x::ps)=>if x="var"then(match ps with|[.int i]=>if b<=i then g (i-b) b else .tup (.str x::ps)|_=> .tup (.str x::ps))else aR x ps ((List.range (ak x ps).length).map λi=>bI g n (b+fG x i) (((ak x ps)[i]?).getD .a_))|_,_,d=>d
def Cs(P:Program)(w:World)(K:PySem.W.Frag)(mg:Str->Option Value)(kc n:Nat)(base:Heap):Sp:=λvs H Q _=>∃(d:D)(v:V)(b:Int)(f:Addr)(g:Int->Int->D)(Pre:Hp->Prop),vs=[v, .int b, .ref f]/\Rep H d v/\Wf d/\depth d<n/\0<=b/\Pre H/\Ut P w K mg base kc f g Pre/\∀(u:V)(H':Hp),aK H H'->Rep H' (bI g n b d) u->Q u H'
theorem iP:aP ["thing","binders","change","kids"] ["thing","binders","change"] (ao cU):=⟨rfl,rfl,rfl,by decide+kernel,rfl,by decide+kernel,by decide+kernel⟩
theorem p7{kc n:Nat}(D:Df K mg "with_free" cU ["thing","binders","change"])(M:Mg mg t)(bp:bZ P w K mg bW "kids_of" (1) ["thing"] g7)(bX:bZ P w K mg bW "binds_of" (1) ["thing"] iy)(gD:bZ P w K mg bW "rebuilt" (1) ["thing","kids"] jI)(dB:my P w K mg bW "with_free" (n+kc+3) ["thing","binders","change"] (Cs P w K mg kc n)):my P w K mg bW "with_free" (n+kc+4) ["thing","binders","change"] (Cs P w K mg kc (n+1)):=by
 refine D.VI iP (λbase vs H Q E h=>?_) (λbase f cS A outer s H vs Q E hr h=>?_);·obtain⟨d,v,b,U,g,Pre,rfl,_⟩:=h;rfl
 obtain⟨d,v,b,U,g,Pre,rfl,r,Jj,hd,hb,Y,C,q⟩:=h;have W:=C.U7;obtain⟨x,ps,k,rfl,wf,JV⟩:=vY Jj;have NP:=CZ wf;obtain⟨a,C5,rfl,ha,v0,C5,rfl,⟨rfl,hx⟩,rp⟩:=id r;have ea:rO (V.str x::C5) 0=some (.str x):=bF (j:=0) rfl;refine⟨_,(ar (bH (aN ck (bY da (pv 0) ag (λ_ _=>rfl)) ai (aS _)) (aq (aF (fZ (aN CF (bY da (pv 0) ag (λ_ _=>rfl)) (pv 1) (aS _)) (BG (i:=2) W hr.m rfl (by first|exact Or.inl rfl|exact Or.inr (Or.inl rfl)|exact Or.inr (Or.inr rfl)) (aa (aD jB (bY da (pv 0) ag (λ_ _=>rfl)) (pv 1)) (aa (pv 1) af))) (pv 0)))) aY) (ar (DT (ix:=3) (N':=["kid","bound","change","binders"]) (own:=2) (fr:=[2,1]) iP.nd rfl rfl rfl (lU (N:=["thing","binders","change","kids"]) (sc:=ao cU) rfl rfl rfl (by decide+kernel)) (w8 rfl M.Gi (aa (aH bp hr.m rfl aX (aa (pv 0) af)) (aa (aH bX hr.m rfl aX (aa (pv 0) af)) af))) (Ar (n:=2) (by decide) (by decide)) (λ_ _ _=>(Bn (n:=2) rfl (jn (cM (i:=0) (show List.Nodup (["kid","bound","change","binders"]:List Str)by decide+kernel) rfl (Or.inl rfl)) (jn (cM (i:=1) (show List.Nodup (["kid","bound","change","binders"]:List Str)by decide+kernel) rfl (Or.inl rfl)) wj)))) (λ_ _ _=>qb) (λ_ _ _=>(IT (base:=base) dB hr.m rfl aX (aa (pv 0) (aa (aD b9 (pv 3) (pv 1)) (aa (pv 2) af)))))) (aq (aF (aH gD hr.m rfl aX (aa (pv 0) (aa (pv 3) af))))))),?_⟩;try dsimp only[r_,gG]
 refine OZ ?_;intro _ _ _;refine⟨_,rfl,a,_,_,_,rfl,rfl,d8.of ha,ea,rfl,_,rfl,?_⟩;refine dg (λc=>?_) (λc=>?_)
 ·have c:V.str x=V.str "var":=of_decide_eq_true c;cases c;obtain⟨sh,T,_,F,_,G,_⟩:=bT wf;rw[cV]at T;cases T;rw[mq]at F G;obtain⟨m,rfl⟩:∃m,ps=[m]:=by cases ps with|nil=>simp at G|cons m rest=>cases rest with|nil=>exact⟨m,rfl⟩|cons _ _=>simp at G
  rw[aw,cw]at F;have hn:fI m=true:=by simpa[cE]using F.1
  obtain⟨i,rfl⟩:∃i,m= .int i:=by cases m<;>first|exact⟨_,rfl⟩|simp[fI]at hn
  obtain⟨u1,Rm,rfl,r1,_⟩:=rp;cases(show u1=V.int i from r1);have h0:0<=i:=by simpa[fI]using hn
  have e:bI g (n+1) b (.tup [.str "var", .int i])=if b<=i then g (i-b) b else .tup [.str "var", .int i]:=by rw[bI,if_pos rfl]
  rw[e]at q;refine⟨_,rfl,a,_,_, .int i,rfl,rfl,d8.of ha,bF (j:=1) rfl,_,rfl,_,_,rfl,rfl,_,rfl,?_⟩;refine dg (λc=>?_) (λc=>?_);·have c:b<=i:=of_decide_eq_true c;rw[if_pos c]at q;exact⟨rfl,_,rfl,a,_,_, .int i,rfl,rfl,d8.of ha,bF (j:=1) rfl,_,rfl,_,_,rfl,rfl,_,rfl,i-b,b,rfl,by omega,hb,Y,q⟩
  ·have c:¬b<=i:=of_decide_eq_false (Bool.eq_false_iff.mpr c);rw[if_neg c]at q;exact⟨_,rfl,q _ H (aK.refl H) r⟩
 have hv:x≠"var":=λz=>c (by rw[z];exact decide_eq_true rfl);have e:bI g (n+1) b (.tup (.str x::ps))=aR x ps ((List.range (ak x ps).length).map λi=>bI g n (b+fG x i) (((ak x ps)[i]?).getD .a_)):=by
  conv=>lhs;unfold bI
  exact if_neg hv
 rw[e]at q;refine⟨_,rfl,x,ps,_,rfl,r,JV,λp1 us H1 _ s1 h1 r1=>⟨_,rfl,x,ps,_,k,rfl,r.mono s1,wf,λp2 H2 s2 h2=>⟨p1,p2,us,_,rfl,bO.of (s2 _ _ h1),bO.of h2,λp3 P8=>?_⟩⟩⟩;have l1:=r1.length;have L:=s1.trans s2;have I:=s2 _ _ h1;refine yz (ak x ps).length (λi=>bI g n (b+fG x i) (((ak x ps)[i]?).getD .a_)) P8 (cu NP (by decide)) (λi H3 hi l=>?_) λacc H3 l h3 r3=>⟨⟨us,_,bO.of (l _ _ I),bO.of (l _ _ h2),by omega⟩,?_⟩
 ·obtain⟨B,J⟩:∃B,(ak x ps)[i]?=some B:=⟨_,zQ03 hi⟩;obtain⟨O,Z,GX⟩:=r1.get J;have hbi:(jv x (ak x ps).length)[i]?=some (.int (fG x i)):=by unfold jv;rw[fU,List.getElem?_range hi];show some (gS x i)=_;rw[wH]
  refine⟨⟨us,_,O,_,bO.of (l _ _ I),bO.of (l _ _ h2),Z,hbi⟩,?_⟩;rintro y S⟨p,x',y',rfl,O0,rfl,hy⟩R X;obtain⟨y1,y2⟩:=hy us _ (bO.of (l _ _ I)) (bO.of (l _ _ h2));rw[Z]at y1;rw[hbi]at y2;cases y1;cases y2;have o:=ah O0 (.tup [O, .int (fG x i)]);obtain⟨w1,w2⟩:=cR wf J;rw[J]at X;have sa:=L.trans (l.trans o);refine⟨p,_,rfl,d8.of aj,rfl,_,_,rfl,_,_,rfl,rfl,?_⟩;exact⟨_,rfl,_,rfl,_,rfl,_,_,rfl,rfl,_,rfl,λb' up=>⟨B,O,b+fG x i,U,g,Pre,rfl,GX.mono (s2.trans (l.trans o)),w1,by omega,by have :=dq x i;omega,C.st _ _ Y sa,⟨W.up up,C.st⟩,λu H5 s5 r5=>X u H5 (o.trans s5) r5⟩⟩
 ·refine⟨_,rfl,_,rfl,x,ps,_,_,p3,acc,rfl,r.mono (L.trans l),h3,r3,by rw[cT,mw];omega,λu S o r4=>q u S (L.trans (l.trans o)) r4⟩
theorem fW{kc:Nat}(D:Df K mg "with_free" cU ["thing","binders","change"])(M:Mg mg t)(c:bZ P w K mg bW "kids_of" (1) ["thing"] g7)(a:bZ P w K mg bW "binds_of" (1) ["thing"] iy)(e:bZ P w K mg bW "rebuilt" (1) ["thing","kids"] jI):∀n:Nat,my P w K mg bW "with_free" (n+kc+3) ["thing","binders","change"] (Cs P w K mg kc n)|0=>my.never D λbase vs H Q E⟨d,v,b,f,g,Pre,_,_,_,h,_⟩=>absurd h (kO _)|n+1=>by have :=p7 (kc:=kc) D M c a e (fW D M c a e n);rwa[show n+1+kc+3=n+kc+4 by omega]
noncomputable abbrev fD:Stmt:=(bM gs).getD 0 (.Pass ⟨0,0,0,0⟩)
theorem js:eV ["number","binders"] ["low","by"] (ao fD):=jR rfl rfl rfl (by decide+kernel)
noncomputable def aT(by_ low:Int)(n b:Int):D:= .tup [.str "var", .int (n+b+(if low<=n then by_ else 0))]
noncomputable def kQ:Str:="raised.<locals>.change"
noncomputable def kW:Pos:=Bi fD
def lP(T:Addr)(n:Nat):Sp:=λvs H Q _=>∃(d:D)(v:V)(by_ low:Int),vs=[v, .int by_, .int low]/\Rep H d v/\Wf d/\depth d<n/\dU H T kQ kW/\∀(u:V)(H':Hp),aK H H'->Rep H' (bI (aT by_ low) n 0 d) u->Q u H'
theorem oF:aP ["thing","by","low","change"] ["thing","by","low"] (ao gs):=⟨rfl,rfl,rfl,by decide+kernel,rfl,by decide+kernel,by decide+kernel⟩
theorem Cy{n:Nat}{T:Addr}(D:Jp K mg "raised" gs ["thing","by","low"] T)(M:Mg mg t)(l:my P w K mg bW "with_free" (n+1+3) ["thing","binders","change"] (Cs P w K mg 1 n)):bZ P w K mg bW "raised" (n+5) ["thing","by","low"] (lP T n):=by
 refine D.ok oF (λvs H Q E h=>?_) (λbase f I A outer s H vs Q E y hr h=>?_);·obtain⟨d,v,by_,low,rfl,_⟩:=h;rfl
 obtain⟨d,v,by_,low,rfl,r,F,hd,hT,q⟩:=h;refine⟨_,(wV (i:=3) (qual:=kQ) y rfl oF.nd rfl rfl rfl rfl (λg c doc pm ct=>(aq (aF (Aq l hr.m rfl aX (aa (pv 0) (aa ag (aa (pv 3) af)))))))),?_⟩;try dsimp only[r_,J]
 refine⟨hT,λg c doc pm ct m s1 hc=>?_⟩;refine⟨v,rfl,_,rfl,λb' B=>?_⟩;refine⟨d,v,0,g,aT by_ low,λH'=>H' c=some (fi kQ),rfl,r.mono s1,F,hd,Int.le_refl 0,hc,⟨?_,λm a h s=>s _ _ h⟩,λu a s2 r2=>q u a (s1.trans s2) r2⟩;have C:=BF (cs:=["low","by"]) (ws:=[.int low, .int by_]) B rfl (by simp) rfl λi x e=>by match i,e with|0,e=>cases e;exact⟨2,_,rfl,rfl,rfl,rfl,rfl,rfl⟩|1,e=>cases e;exact⟨1,_,rfl,rfl,rfl,rfl,rfl,rfl⟩|i+2,e=>simp at e
 refine xt (k:=0) js C (λus hl=>match us,hl with|[_,_],_=>rfl) (λvs H Q⟨n,b,e,_,_,h,_⟩=>⟨by rw[e];rfl,h⟩) λG A outer s H vs Q hr h=>?_;obtain⟨n,b,rfl,L,hb,_,q⟩:=h;refine⟨_,(aq (aF (bA (aa ai (aa (aD b9 (aD b9 (pv 0) (pv 1)) (fZ (aN CF (pv 0) (pv 2) (aS _)) (pv 3) ag)) af))))),?_⟩;refine⟨_,rfl,_,rfl,_,_,rfl,rfl,_,rfl,_,rfl,_,_,rfl,rfl,_,rfl,?_⟩;have fin:∀z:Int,z=(if low<=n then by_ else 0)->∀p,H p=none->Q (.ref p) (upd H p (.tup [.str "var", .int (n+b+z)])):=λz o p j=>by refine q _ _ (ah j _) ?_;rw[o];exact br j (rs oj (rs ri r0))
 refine dg (λc=>?_) (λc=>?_);·have c:low<=n:=of_decide_eq_true c;exact⟨_,rfl,_,_,rfl,rfl,(eZ rfl),fin by_ (by rw[if_pos c])⟩
 ·have c:¬low<=n:=of_decide_eq_false (Bool.eq_false_iff.mpr c);exact⟨_,_,rfl,rfl,(eZ rfl),fin 0 (by rw[if_neg c])⟩
theorem tF{x:Str}{ps:List D}{k:Bool}(wf:bf av k (.tup (.str x::ps))=true)(f:Nat->D)(m:∀(i:Nat)(p:D)(c:Nat),(ak x ps)[i]?=some p->cE av c p=true->(c=107\/c=116)->cE av c (f i)=true):bf av k (aR x ps ((List.range (ak x ps).length).map f))=true:=by
 unfold aR;by_cases hq:(List.range (ak x ps).length).map f=[];·rw[if_pos hq];exact wf
 rw[if_neg hq];obtain⟨v,h1,h2,h3,h4,h5,h6,r,_⟩:=bT wf;have nl:bV x=false:=by cases e:bV x with|false=>rfl|true=>exact absurd (by unfold ak;rw[if_pos e];rfl) hq
 have o:ak x ps=ps:=by unfold ak;rw[nl];rfl
 refine cF h1 h2 ?_;rw[o]at m⊢;have u:∀(cs:List Nat)(a:List D)(j:Nat),eB av cs a=true->(∀c∈cs,c=107\/c=116)->(∀(i:Nat)(p:D)(c:Nat),a[i]?=some p->cE av c p=true->(c=107\/c=116)->cE av c (f (j+i))=true)->eB av cs ((List.range' j a.length).map f)=true:=λcs=>by
  induction cs with
   |nil=>intro a j h _ _;cases a with|nil=>exact h|cons _ _=>simp[eB]at h
   |cons c cs s=>intro a j h hc l;cases a with|nil=>simp[eB]at h|cons q a=>rw[aw,cw]at h;rw[gH,List.range'_succ,eO,aw,cw];refine⟨by have :=l 0 q c rfl h.1 (hc c cY);rwa[Nat.add_zero]at this,s a (j+1) h.2 (λc h=>hc c (c_ _ h)) λi p n b d g=>?_⟩;have :=l (i+1) p n (by simpa using b) d g;rwa[show j+1+i=j+(i+1)by omega]
 have :=u v.cps.toList ps 0 h3 (λc hc=>r nl c hc) λi p c b d g=>by rw[Nat.zero_add];exact m i p c b d g
 rwa[<-List.range_eq_range']at this
theorem Bz{x:Str}{ps:List D}{k:Bool}(wf:bf av k (.tup (.str x::ps))=true)(f:Nat->D)(d:∀(i:Nat)(p:D),(ak x ps)[i]?=some p->aB (f i)=aB p/\depth (f i)=depth p):aB (aR x ps ((List.range (ak x ps).length).map f))=aB (.tup (.str x::ps))/\depth (aR x ps ((List.range (ak x ps).length).map f))=depth (.tup (.str x::ps)):=by
 unfold aR;by_cases hq:(List.range (ak x ps).length).map f=[];·rw[if_pos hq];exact⟨rfl,rfl⟩
 rw[if_neg hq];have nl:bV x=false:=by cases e:bV x with|false=>rfl|true=>exact absurd (by unfold ak;rw[if_pos e];rfl) hq
 have g:ak x ps=ps:=by unfold ak;rw[nl];rfl
 rw[g]at d⊢;have m:∀(a:List D)(j:Nat),(∀(i:Nat)(p:D),a[i]?=some p->aB (f (j+i))=aB p/\depth (f (j+i))=depth p)->aC ((List.range' j a.length).map f)=aC a/\az ((List.range' j a.length).map f)=az a:=λa=>by
  induction a with
   |nil=>intro _ _;exact⟨rfl,rfl⟩
   |cons q a l=>
    intro j h;obtain⟨a1,a2⟩:=l (j+1) λi p e=>by have :=h (i+1) p (by simpa using e);rwa[show j+1+i=j+(i+1)by omega]
    obtain⟨b,c⟩:=h 0 q rfl;rw[Nat.add_zero]at b c;rw[gH,List.range'_succ,eO,aC,az,aC,az,a1,a2,b,c];exact⟨rfl,rfl⟩
 have :=m ps 0 λi p e=>by rw[Nat.zero_add];exact d i p e
 rw[<-List.range_eq_range']at this;simp only[aB,aC,depth,az];rw[this.1,this.2];exact⟨rfl,rfl⟩
theorem dY{k:Bool}{ps:List D}(wf:bf av k (.tup (.str "var"::ps))=true):∃i:Int,ps=[.int i]/\0<=i/\k=false:=by
 obtain⟨f,d,e,b,_,c,_⟩:=bT wf;rw[cV]at d;cases d;rw[mq]at b c;obtain⟨a,rfl⟩:∃a,ps=[a]:=by cases ps with|nil=>simp at c|cons a rest=>cases rest with|nil=>exact⟨a,rfl⟩|cons _ _=>simp at c
 rw[aw,cw]at b;have hn:fI a=true:=by simpa[cE]using b.1
 obtain⟨i,rfl⟩:∃i,a= .int i:=by cases a<;>first|exact⟨_,rfl⟩|simp[fI]at hn
 exact⟨i,rfl,by simpa[fI]using hn,by rw[<-e];exact mH⟩
theorem rV{z:Int}(h:0<=z):bf av false (.tup [.str "var", .int z])=true:=by refine cF cV mH ?_;rw[mq,aw];simp[cE,fI,h,eB]
theorem BW{c:Nat}{p:D}(h:cE av c p=true)(hc:c=107\/c=116):∃k,bf av k p=true/\∀q,bf av k q=true->cE av c q=true:=by
 rcases hc with rfl|rfl;·exact⟨true,h,λq hq=>hq⟩
 ·exact⟨false,h,λq hq=>hq⟩
theorem dr{by_ low:Int}(g:0<=by_):∀(n:Nat)(b:Int)(d:D)(k:Bool),0<=b->depth d<n->bf av k d=true->bf av k (bI (aT by_ low) n b d)=true/\aB (bI (aT by_ low) n b d)=aB d/\depth (bI (aT by_ low) n b d)=depth d
 |0,_,_,_,_,h,_=>absurd h (kO _)
 |n+1,b,d,k,hb,hd,wf=>by
  obtain⟨x,ps,rfl⟩:=cN wf;by_cases hv:x="var"
  ·subst hv;obtain⟨i,rfl,hi,rfl⟩:=dY wf;have e:bI (aT by_ low) (n+1) b (.tup [.str "var", .int i])=if b<=i then aT by_ low (i-b) b else .tup [.str "var", .int i]:=by rw[bI,if_pos rfl]
   rw[e];split;·unfold aT;refine⟨rV ?_,by simp[aB,aC],by simp[depth,az]⟩;split<;>omega
   ·exact⟨wf,rfl,rfl⟩
  ·have e:bI (aT by_ low) (n+1) b (.tup (.str x::ps))=aR x ps ((List.range (ak x ps).length).map λi=>bI (aT by_ low) n (b+fG x i) (((ak x ps)[i]?).getD .a_)):=by
    conv=>lhs;unfold bI
    exact if_neg hv
   rw[e];refine⟨tF wf _ λi p c a j l=>?_,Bz wf _ λi p a=>?_⟩;·obtain⟨w1,w2⟩:=cR wf a;obtain⟨f,h1,h2⟩:=BW j l;rw[a];exact h2 _ (dr g n (b+fG x i) p f (by have :=dq x i;omega) (by omega) h1).1
   ·obtain⟨⟨f,w1⟩,w2⟩:=cR wf a;rw[a];exact(dr g n (b+fG x i) p f (by have :=dq x i;omega) (by omega) w1).2
noncomputable abbrev fB:Stmt:=(bM gf).getD 0 (.Pass ⟨0,0,0,0⟩)
theorem jH:eV ["number","binders"] ["other","at"] (ao fB):=jR rfl rfl rfl (by decide+kernel)
noncomputable def bj(o:D)(at_:Int)(n b:Int):D:=if n=at_ then bI (aT b 0) 58 0 o else .tup [.str "var", .int (n+b-(if at_<n then 1 else 0))]
noncomputable def kH:Str:="put_in.<locals>.change"
noncomputable def jX:Pos:=Bi fB
noncomputable abbrev cf(o:D)(at_:Int)(d:D):D:=bI (bj o at_) 58 0 d
noncomputable abbrev qr(d:D):Bool:=gP d||eP d
structure Lf(H:Hp)(T1 T2:Addr)(at_:Int)(d o:D)(v u:V):Prop where
 r:Rep H d v
 ro:Rep H o u
 wf:Wf d
 V8:Wf o
 dp:depth d<58
 UC:depth o<58
 rz:Rz (cf o at_ d) 100
 t1:dU H T1 kQ kW
 t2:dU H T2 kH jX
def pA(C T1 T2:Addr):Sp:=λvs H Q E=>∃(d o:D)(v u:V)(at_:Int),vs=[v,u, .int at_]/\Lf H T1 T2 at_ d o v u/\(∀(z:V)(H':Hp),aK H H'->qr (cf o at_ d)=false->Rep H' (cf o at_ d) z->Q z H')/\(∀H',aK H H'->qr (cf o at_ d)=true->E (.ref C) none H')
theorem n_:aP ["thing","other","at","change"] ["thing","other","at"] (ao gf):=⟨rfl,rfl,rfl,by decide+kernel,rfl,by decide+kernel,by decide+kernel⟩
theorem BU{T1 T2:Addr}(D:Jp K mg "put_in" gf ["thing","other","at"] T2)(M:Mg mg t)(r:bZ P w K mg bW "raised" (63) ["thing","by","low"] (lP T1 58))(y:my P w K mg bW "with_free" (58+64+3) ["thing","binders","change"] (Cs P w K mg 64 58))(m:bZ P w K mg (h_ P w) "bounded" (104) ["thing"] (jD t.dF 100)):bZ P w K mg (h_ P w) "put_in" (126) ["thing","other","at"] (pA t.dF T1 T2):=by
 refine D.KR n_ (λvs H Q E h=>?_) (λbase f R A outer s H vs Q E L hr h=>?_);·obtain⟨d,o,v,u,at_,rfl,_⟩:=h;rfl
 obtain⟨d,o,v,u,at_,rfl,I,q,N⟩:=h;refine⟨_,(wV (i:=3) (qual:=kH) L rfl n_.nd rfl rfl rfl rfl (λj c doc pm ct=>(aq (aF (aH m hr.m rfl (zG bg (λ_ z=>nomatch z)) (aa (Aq y hr.m rfl aX (aa (pv 0) (aa ag (aa (pv 3) af)))) af)))))),?_⟩;try dsimp only[r_,S]
 refine⟨I.t2,λj c doc pm ct F s1 hc=>?_⟩;refine⟨v,rfl,_,rfl,λb' B=>?_⟩;refine⟨d,v,0,j,bj o at_,λH'=>H' c=some (fi kH)/\Rep H' o u/\dU H' T1 kQ kW,rfl,I.r.mono s1,I.wf,I.dp,Int.le_refl 0,⟨hc,I.ro.mono s1,I.t1.mono s1⟩,⟨?_,λF G h s=>⟨s _ _ h.1,h.2.1.mono s,h.2.2.mono s⟩⟩,λz G s2 r2=>?_⟩;rotate_left;·exact⟨_,z,rfl,r2,I.rz,λg a hv=>q z g (s1.trans (s2.trans a)) hv (r2.mono a),λg a hv=>N g (s1.trans (s2.trans a)) hv⟩
 have C:=BF (cs:=["other","at"]) (ws:=[u, .int at_]) B rfl (by simp) rfl λi x e=>by match i,e with|0,e=>cases e;exact⟨1,_,rfl,rfl,rfl,rfl,rfl,rfl⟩|1,e=>cases e;exact⟨2,_,rfl,rfl,rfl,rfl,rfl,rfl⟩|i+2,e=>simp at e
 refine xt (k:=63) jH C (λus hl=>match us,hl with|[_,_],_=>rfl) (λvs H Q⟨n,b,e,_,_,h,_⟩=>⟨by rw[e];rfl,h.1⟩) λO A outer s H vs Q hr h=>?_;obtain⟨n,b,rfl,T,hb,⟨_,ho,hT⟩,q⟩:=h;refine⟨_,(ar (bH (aN ck (pv 0) (pv 3) (aS _)) (aq (aF (aH r hr.m rfl aX (aa (pv 2) (aa (pv 1) (aa ag af)))))) aY) (aq (aF (bA (aa ai (aa (aD jB (aD b9 (pv 0) (pv 1)) (fZ (aN v8 (pv 0) (pv 3) (aS _)) ag ag)) af)))))),?_⟩;unfold bj at q;refine⟨_,rfl,_,rfl,rfl,_,rfl,?_⟩;refine dg (λc=>?_) (λc=>?_)
 ·have c:n=at_:=by have :V.int n=V.int at_:=of_decide_eq_true c;injection this
  rw[if_pos c]at q;exact⟨_,rfl,_,rfl,o,u,b,0,rfl,ho,I.V8,I.UC,hT,q⟩
 have c:¬n=at_:=λz=>c (by rw[z];exact decide_eq_true rfl);rw[if_neg c]at q;refine⟨_,rfl,_,rfl,_,_,rfl,rfl,_,rfl,_,rfl,_,_,rfl,rfl,_,rfl,?_⟩;have fin:∀z:Int,z=(if at_<n then 1 else 0)->∀p,H p=none->Q (.ref p) (upd H p (.tup [.str "var", .int (n+b-z)])):=λz J p l=>by refine q _ _ (ah l _) ?_;rw[J];exact br l (rs oj (rs ri r0))
 refine dg (λc=>?_) (λc=>?_);·have c:at_<n:=of_decide_eq_true c;exact⟨_,_,rfl,rfl,(eZ rfl),fin 1 (by rw[if_pos c])⟩
 ·have c:¬at_<n:=of_decide_eq_false (Bool.eq_false_iff.mpr c);exact⟨_,_,rfl,rfl,(eZ rfl),fin 0 (by rw[if_neg c])⟩
end K17
end
section
namespace K17
open PySem L2 L3 KM PyProof.Rows
noncomputable def mO(at_:Int):Nat->Int->D->Nat|n+1,b, .tup (.str x::ps)=>if x="var"then(match ps with|[.int i]=>if i=at_+b then 1 else 0|_=>0)else((List.range (ak x ps).length).map λi=>mO at_ n (b+fG x i) (((ak x ps)[i]?).getD .a_)).sum|_,_,_=>0
theorem yj{x:Str}{ps:List D}{k:Bool}(wf:bf av k (.tup (.str x::ps))=true)(f:Nat->D):aB (aR x ps ((List.range (ak x ps).length).map f))=1+((List.range (ak x ps).length).map λi=>aB (f i)).sum/\depth (aR x ps ((List.range (ak x ps).length).map f))=1+o_ ((List.range (ak x ps).length).map λi=>depth (f i)):=by
 unfold aR;by_cases hq:(List.range (ak x ps).length).map f=[]
 ·rw[if_pos hq];have hl:(ak x ps).length=0:=by have :=congrArg List.length hq;rw[cT,mw]at this;exact this
  obtain⟨a,b⟩:=fj wf;rw[a,b,hl,List.length_eq_zero_iff.mp hl];exact⟨rfl,rfl⟩
 ·rw[if_neg hq];have a:aB (.tup (.str x::(List.range (ak x ps).length).map f))=1+aC ((List.range (ak x ps).length).map f):=by simp[aB,aC]
  have b:depth (.tup (.str x::(List.range (ak x ps).length).map f))=1+az ((List.range (ak x ps).length).map f):=by simp[depth,az]
  rw[a,b,ij,gZ,List.map_map,List.map_map];exact⟨rfl,rfl⟩
theorem vv{x:Str}{ps:List D}{k:Bool}(wf:bf av k (.tup (.str x::ps))=true):aB (.tup (.str x::ps))=1+((List.range (ak x ps).length).map λi=>aB (((ak x ps)[i]?).getD .a_)).sum/\depth (.tup (.str x::ps))=1+o_ ((List.range (ak x ps).length).map λi=>depth (((ak x ps)[i]?).getD .a_)):=by
 obtain⟨b,c⟩:=fj wf;rw[b,c];have a:∀(l:List D)(g:D->Nat),l.map g=(List.range l.length).map λi=>g ((l[i]?).getD .a_):=λl g=>by
  refine List.ext_getElem (by simp) λi h1 h2=>?_;have hi:i<l.length:=by simpa using h1
  simp[zQ03 hi]
 rw[a _ aB,a _ depth];exact⟨rfl,rfl⟩
theorem xm(A B C:Nat->Nat)(m:Nat):∀l:List Nat,(∀i∈l,A i+C i=B i+C i*m)->(l.map A).sum+(l.map C).sum=(l.map B).sum+(l.map C).sum*m|[],_=>by simp|i::l,h=>by have a:=xm A B C m l λj hj=>h j (c_ _ hj);have b:=h i cY;simp only[eO,List.sum_cons,Nat.add_mul];omega
theorem w_(A B:Nat->Nat):∀l:List Nat,(∀i∈l,A i<=B i)->(l.map A).sum<=(l.map B).sum|[],_=>by simp|i::l,h=>by have a:=w_ A B l λj hj=>h j (c_ _ hj);have b:=h i cY;simp only[eO,List.sum_cons];omega
theorem wz(A B:Nat->Nat)(m:Nat):∀l:List Nat,(∀i∈l,A i<=B i+m)->o_ (l.map A)<=o_ (l.map B)+m|[],_=>by simp[o_]|i::l,h=>by have a:=wz A B m l λj hj=>h j (c_ _ hj);have b:=h i cY;simp only[eO,o_];omega
theorem cA{o:D}{at_:Int}(l:0<=at_)(j:bf av false o=true)(ho:depth o<58):∀(n:Nat)(b:Int)(d:D)(k:Bool),0<=b->depth d<n->bf av k d=true->bf av k (bI (bj o at_) n b d)=true/\aB (bI (bj o at_) n b d)+mO at_ n b d=aB d+mO at_ n b d*aB o/\depth (bI (bj o at_) n b d)<=depth d+depth o/\mO at_ n b d<=aB d
 |0,_,_,_,_,h,_=>absurd h (kO _)
 |n+1,b,d,k,hb,hd,wf=>by
  obtain⟨x,ps,rfl⟩:=cN wf;by_cases hv:x="var"
  ·subst hv;obtain⟨i,rfl,hi,rfl⟩:=dY wf;have e:bI (bj o at_) (n+1) b (.tup [.str "var", .int i])=if b<=i then bj o at_ (i-b) b else .tup [.str "var", .int i]:=by rw[bI,if_pos rfl]
   have m:mO at_ (n+1) b (.tup [.str "var", .int i])=if i=at_+b then 1 else 0:=by rw[mO,if_pos rfl]
   have g:∀z:Int,aB (.tup [.str "var", .int z])=1/\depth (.tup [.str "var", .int z])=1:=λz=>⟨by simp[aB,aC],by simp[depth,az]⟩;rw[e,m,(g i).1,(g i).2];by_cases c:b<=i
   ·rw[if_pos c];unfold bj;by_cases c2:i-b=at_;·rw[if_pos c2,if_pos (show i=at_+b by omega)];obtain⟨a1,a2,a3⟩:=dr (low:=0) hb 58 0 o false (Int.le_refl 0) ho j;rw[a2,a3];exact⟨a1,by omega,by omega,zQ04 _⟩
    ·rw[if_neg c2,if_neg (show¬i=at_+b by omega),(g _).1,(g _).2];refine⟨rV ?_,by omega,by omega,zQ11 _⟩;split<;>omega
   ·rw[if_neg c,if_neg (show¬i=at_+b by omega),(g _).1,(g _).2];exact⟨wf,by omega,by omega,zQ11 _⟩
  ·have e:bI (bj o at_) (n+1) b (.tup (.str x::ps))=aR x ps ((List.range (ak x ps).length).map λi=>bI (bj o at_) n (b+fG x i) (((ak x ps)[i]?).getD .a_)):=by
    conv=>lhs;unfold bI
    exact if_neg hv
   have m:mO at_ (n+1) b (.tup (.str x::ps))=((List.range (ak x ps).length).map λi=>mO at_ n (b+fG x i) (((ak x ps)[i]?).getD .a_)).sum:=by
    conv=>lhs;unfold mO
    exact if_neg hv
   rw[e,m];have each:∀(i:Nat),i∈List.range (ak x ps).length->∃p a,(ak x ps)[i]?=some p/\depth p<depth (.tup (.str x::ps))/\bf av a p=true:=λi hi=>by obtain⟨p,f⟩:∃p,(ak x ps)[i]?=some p:=⟨_,zQ03 (List.mem_range.mp hi)⟩;obtain⟨⟨a,w1⟩,w2⟩:=cR wf f;exact⟨p,a,f,w2,w1⟩
   obtain⟨q1,q2⟩:=vv wf;obtain⟨r1,r2⟩:=yj wf λi=>bI (bj o at_) n (b+fG x i) (((ak x ps)[i]?).getD .a_);rw[r1,r2,q1,q2];refine⟨tF wf _ λi p c q r s=>?_,?_,?_,?_⟩;·obtain⟨w1,w2⟩:=cR wf q;obtain⟨a,h1,h2⟩:=BW r s;rw[q];exact h2 _ (cA l j ho n (b+fG x i) p a (by have :=dq x i;omega) (by omega) h1).1
   ·have :=xm (λi=>aB (bI (bj o at_) n (b+fG x i) (((ak x ps)[i]?).getD .a_))) (λi=>aB (((ak x ps)[i]?).getD .a_)) (λi=>mO at_ n (b+fG x i) (((ak x ps)[i]?).getD .a_)) (aB o) (List.range (ak x ps).length) λi hi=>by obtain⟨p,a,f,w2,w1⟩:=each i hi;simp only[f,Option.getD_some];exact(cA l j ho n (b+fG x i) p a (by have :=dq x i;omega) (by omega) w1).2.1
    omega
   ·have :=wz (λi=>depth (bI (bj o at_) n (b+fG x i) (((ak x ps)[i]?).getD .a_))) (λi=>depth (((ak x ps)[i]?).getD .a_)) (depth o) (List.range (ak x ps).length) λi hi=>by obtain⟨p,a,f,w2,w1⟩:=each i hi;simp only[f,Option.getD_some];exact(cA l j ho n (b+fG x i) p a (by have :=dq x i;omega) (by omega) w1).2.2.1
    omega
   ·have :=w_ (λi=>mO at_ n (b+fG x i) (((ak x ps)[i]?).getD .a_)) (λi=>aB (((ak x ps)[i]?).getD .a_)) (List.range (ak x ps).length) λi hi=>by obtain⟨p,a,f,w2,w1⟩:=each i hi;simp only[f,Option.getD_some];exact(cA l j ho n (b+fG x i) p a (by have :=dq x i;omega) (by omega) w1).2.2.2
    omega
end K17
end
section
namespace SR
open PySem PySem.Spec PyProof.Rows
noncomputable abbrev kv(x:Keyed):Int:=numOf x.1
noncomputable abbrev IK(x:Keyed):Prop:=∃n t,x.1=Value.int n t
noncomputable def Dt:Bool->Keyed->Array Keyed->Nat->Nat->Nat->StateT SortSt Sem (Option Nat):=sortPriv%PySem.Builtin.gallop
theorem aE{xs:Array Keyed}{i:Nat}{x:Keyed}(e:xs[i]?=some x):K xs i=kv x:=by unfold K;rw[e]
section
variable{prog:Program}{w:World}{A:Around}{E:Value->Shared->Prop}{s:Shared}
theorem w_lt{st:SortSt}{x y:Keyed}{Q:Option Bool->SortSt->Prop}(c:kindOf st=oneType')(d:IK x)(f:IK y)(h:Q (some (decide (kv x<kv y))) st):wpS (model prog w) A E s (lt' x y) Q st:=by
 obtain⟨n,t,a⟩:=d;obtain⟨m,u,b⟩:=f;rw[lt'_eq];refine wpS_bind (wpS_get ?_);rw[c,keyLt'_oneType];have e:decide (kv x<kv y)=decide (n<m):=by unfold kv;rw[a,b];rfl
 rw[e]at h;rw[a,b];exact wpS_bind (wpS_lift (wpAny_attempt (oneLt_int ⟨rfl,wpS_pure h⟩)))
theorem aU{st:SortSt}{xs:Array Keyed}{i:Nat}{x:Keyed}{Q:Keyed->SortSt->Prop}(e:xs[i]?=some x)(h:Q x st):wpS (model prog w) A E s (elem' xs i) Q st:=by rw[elem'_eq,e];exact wpS_pure h
noncomputable def gq(left:Bool)(k:Int)(xs:Array Keyed)(i:Nat):Bool:=if left then decide (K xs i<k)else !decide (k<K xs i)
theorem dM{st:SortSt}{left:Bool}{g:Keyed}{xs:Array Keyed}{base n hint:Nat}{Q:Option Nat->SortSt->Prop}(y:kindOf st=oneType')(B:IK g)(L:∀i,i<n->∃x,xs[base+i]?=some x/\IK x)(J:∀i j,i<=j->j<n->K xs (base+i)<=K xs (base+j))(hh:hint<n)(h:∀k,k<=n->(∀i,i<k->gq left (kv g) xs (base+i)=true)->(∀i,k<=i->i<n->gq left (kv g) xs (base+i)=false)->Q (some k) st):wpS (model prog w) A E s (Dt left g xs base n hint) Q st:=by
 have mono:∀i j,i<=j->j<n->gq left (kv g) xs (base+j)=true->gq left (kv g) xs (base+i)=true:=by intro i j a b c;have :=J i j a b;unfold gq at c⊢;cases left<;>simp at c⊢<;>omega
 have q:∀i j,i<=j->j<n->gq left (kv g) xs (base+i)=false->gq left (kv g) xs (base+j)=false:=by intro i j a b c;cases d:gq left (kv g) xs (base+j)with|false=>rfl|true=>rw[mono i j a b d]at c;cases c
 let F:Nat->StateT SortSt Sem (Option Bool):=λi=>do let x<-elem' xs (base+i);if left=true then lt' x g else do let r<-lt' g x;pure (Option.map (λx=>!x) r)
 have hb:∀{i:Nat}{Q:Option Bool->SortSt->Prop},i<n->Q (some (gq left (kv g) xs (base+i))) st->wpS (model prog w) A E s (F i) Q st:=by intro i Q hi hq;obtain⟨x,e,ix⟩:=L i hi;have G:=aE e;unfold gq at hq;rw[G]at hq;refine wpS_bind (aU e ?_);cases left with|true=>exact w_lt y ix B hq|false=>exact wpS_bind (w_lt y B ix (wpS_pure hq))
 have v:∀(f:Nat->Option (Option Nat)×Nat×Nat->StateT SortSt Sem (ForInStep (Option (Option Nat)×Nat×Nat))),(∀x l r(o:ForInStep (Option (Option Nat)×Nat×Nat)->SortSt->Prop),l<=r->r<=n->(l=r->o (.done (none,l,r)) st)->(l<r->gq left (kv g) xs (base+(l+(r-l)/2))=true->o (.yield (none,l+(r-l)/2+1,r)) st)->(l<r->gq left (kv g) xs (base+(l+(r-l)/2))=false->o (.yield (none,l,l+(r-l)/2)) st)->wpS (model prog w) A E s (f x (none,l,r)) o st)->∀lo hi,lo<=hi->hi<=n->(∀i,i<lo->gq left (kv g) xs (base+i)=true)->(∀i,hi<=i->i<n->gq left (kv g) xs (base+i)=false)->wpS (model prog w) A E s (forIn [:n] (none,lo,hi) f) (λc aG=>aG=st/\∃l,c=(none,l,l)/\l<=n/\(∀i,i<l->gq left (kv g) xs (base+i)=true)/\(∀i,l<=i->i<n->gq left (kv g) xs (base+i)=false)) st:=by
  intro f H lo hi h1 h2 h3 h4;refine wpS_forRange (I:=λx c aG=>aG=st/\∃l r,c=(none,l,r)/\l<=r/\r<=n/\r-l<=n-x/\(∀i,i<l->gq left (kv g) xs (base+i)=true)/\(∀i,r<=i->i<n->gq left (kv g) xs (base+i)=false)) ?_ ?_ ⟨rfl,lo,hi,rfl,h1,h2,by omega,h3,h4⟩
  ·rintro x c aG _ C⟨rfl,l,r,rfl,a1,a2,a3,a4,a5⟩;refine H x l r _ a1 a2 (λz=>?_) (λz e=>?_) λz e=>?_;·subst z;exact⟨rfl,l,rfl,a2,a4,a5⟩
   ·exact⟨rfl,_,_,rfl,by omega,a2,by omega,λi hi=>mono i _ (by omega) (by omega) e,a5⟩
   ·exact⟨rfl,_,_,rfl,by omega,by omega,by omega,a4,λi hi hn=>q _ i hi hn e⟩
  ·rintro c aG⟨rfl,l,r,rfl,a1,a2,a3,a4,a5⟩;have :l=r:=by omega
   subst this;exact⟨rfl,l,rfl,a2,a4,a5⟩
 refine wpS_bind (hb hh ?_);cases e:gq left (kv g) xs (base+hint)with
  |true=>
   dsimp only;rw[if_pos rfl];refine wpS_bind (wpS_mono (wpS_forRange (I:=λx c aG=>aG=st/\∃l r,c=(none,l,r)/\l<r/\x+1<=r/\hint+l<n/\gq left (kv g) xs (base+(hint+l))=true) (Q:=λc aG=>aG=st/\∃l r,c=(none,l,r)/\l<r/\hint+l<n/\gq left (kv g) xs (base+(hint+l))=true/\(r<n-hint->gq left (kv g) xs (base+(hint+r))=false)) ?_ ?_ ⟨rfl,0,1,rfl,by omega,by omega,by omega,e⟩) ?_)
   ·rintro x c aG _ C⟨rfl,l,r,rfl,a1,a2,a3,a4⟩;dsimp only;by_cases m:r>=n-hint;·rw[if_pos m];exact wpS_pure ⟨rfl,l,r,rfl,a1,a3,a4,λz=>by omega⟩
    ·rw[if_neg m];refine wpS_bind (hb (by omega) ?_);cases e:gq left (kv g) xs (base+(hint+r))with|true=>exact wpS_pure ⟨rfl,_,_,rfl,by omega,by omega,by omega,e⟩|false=>exact wpS_pure ⟨rfl,l,r,rfl,a1,a3,a4,λ_=>e⟩
   ·rintro c aG⟨rfl,l,r,rfl,a1,a2,a3,a4⟩;exact⟨rfl,l,r,rfl,a1,a3,a4,λz=>by omega⟩
   ·rintro c aG⟨rfl,l,r,rfl,a1,a3,a4,a5⟩;refine wpS_bind (wpS_mono (v _ (λx l r o D p q1 q2 q3=>?_) (hint+l+1) (hint+min r (n-hint)) (by omega) (by omega) (λi hi=>mono i _ (by omega) a3 a4) λi hi hn=>q (hint+r) i (by omega) hn (a5 (by omega))) ?_)
    ·dsimp only;by_cases m:l>=r;·rw[if_pos m];exact wpS_pure (q1 (by omega))
     ·rw[if_neg m];refine wpS_bind (hb (by omega) ?_);cases e:gq left (kv g) xs (base+(l+(r-l)/2))with|true=>exact wpS_pure (q2 (by omega) e)|false=>exact wpS_pure (q3 (by omega) e)
    ·rintro c aG⟨rfl,l,rfl,p,t,u⟩;exact wpS_pure (h l p t u)
  |false=>
   dsimp only;rw[if_neg (by decide)];refine wpS_bind (wpS_mono (wpS_forRange (I:=λx c aG=>aG=st/\∃l r,c=(none,l,r)/\l<r/\x+1<=r/\l<=hint/\gq left (kv g) xs (base+(hint-l))=false) (Q:=λc aG=>aG=st/\∃l r,c=(none,l,r)/\l<r/\l<=hint/\gq left (kv g) xs (base+(hint-l))=false/\(r<hint+1->gq left (kv g) xs (base+(hint-r))=true)) ?_ ?_ ⟨rfl,0,1,rfl,by omega,by omega,by omega,e⟩) ?_)
   ·rintro x c aG _ C⟨rfl,l,r,rfl,a1,a2,a3,a4⟩;dsimp only;by_cases m:r>=hint+1;·rw[if_pos m];exact wpS_pure ⟨rfl,l,r,rfl,a1,a3,a4,λz=>by omega⟩
    ·rw[if_neg m];refine wpS_bind (hb (by omega) ?_);cases e:gq left (kv g) xs (base+(hint-r))with|false=>exact wpS_pure ⟨rfl,_,_,rfl,by omega,by omega,by omega,e⟩|true=>exact wpS_pure ⟨rfl,l,r,rfl,a1,a3,a4,λ_=>e⟩
   ·rintro c aG⟨rfl,l,r,rfl,a1,a2,a3,a4⟩;exact⟨rfl,l,r,rfl,a1,a3,a4,λz=>by omega⟩
   ·rintro c aG⟨rfl,l,r,rfl,a1,a3,a4,a5⟩;refine wpS_bind (wpS_mono (v _ (λx l r o D p q1 q2 q3=>?_) (hint+1-min r (hint+1)) (hint-l) (by omega) (by omega) (λi hi=>mono i (hint-r) (by omega) (by omega) (a5 (by omega))) λi hi hn=>q _ i hi hn a4) ?_)
    ·dsimp only;by_cases m:l>=r;·rw[if_pos m];exact wpS_pure (q1 (by omega))
     ·rw[if_neg m];refine wpS_bind (hb (by omega) ?_);cases e:gq left (kv g) xs (base+(l+(r-l)/2))with|true=>exact wpS_pure (q2 (by omega) e)|false=>exact wpS_pure (q3 (by omega) e)
    ·rintro c aG⟨rfl,l,rfl,p,t,u⟩;exact wpS_pure (h l p t u)
end
noncomputable def kl(xs:Array Keyed):List Int:=xs.toList.map kv
structure SB(a₀:Array Keyed)(p:Array (Nat×Nat×Nat))(st:SortSt):Prop where
 perm:(arrOf st).Perm a₀
 kind:kindOf st=oneType'
 failed:failedOf st=none
 pend:pendingOf st=p
variable{a₀:Array Keyed}{p:Array (Nat×Nat×Nat)}
theorem SB.size{st:SortSt}(h:SB a₀ p st):(arrOf st).size=a₀.size:=h.perm.size_eq
theorem SB.setArr{st:SortSt}(h:SB a₀ p st){xs:Array Keyed}(a:xs.Perm (arrOf st)):SB a₀ p (setArr st xs):=⟨a.trans h.perm,h.kind,h.failed,h.pend⟩
theorem SB.at{st:SortSt}(h:SB a₀ p st)(a:IntKeys a₀){i:Nat}(hi:i<a₀.size):∃x,(arrOf st)[i]?=some x/\IK x:=by
 have b:i<(arrOf st).size:=by rw[h.size];exact hi
 exact⟨_,getElem?_pos _ i b,a _ ((Array.perm_iff_toList_perm.mp h.perm).mem_iff.mp (by simp))⟩
theorem F7{xs:Array Keyed}{i:Nat}(hi:i<xs.size):(kl xs)[i]?=some (K xs i):=by unfold kl;rw[fU,Array.getElem?_toList,getElem?_pos xs i hi];rw[aE (getElem?_pos xs i hi)];rfl
theorem DE{xs a:Array Keyed}(h:xs.Perm a):(kl xs).Perm (kl a):=(Array.perm_iff_toList_perm.mp h).map kv
theorem SB.ne{st:SortSt}(h:SB a₀ p st)(hd:(kl a₀).Nodup){i j:Nat}(hi:i<a₀.size)(hj:j<a₀.size)(c:i≠j):K (arrOf st) i≠K (arrOf st) j:=by have hn:(kl (arrOf st)).Nodup:=(DE h.perm).nodup_iff.mpr hd;have a:=F7 (xs:=arrOf st) (i:=i) (by rw[h.size];exact hi);have b:=F7 (xs:=arrOf st) (i:=j) (by rw[h.size];exact hj);intro e;obtain⟨d,f1⟩:=List.getElem?_eq_some_iff.mp a;obtain⟨f,f2⟩:=List.getElem?_eq_some_iff.mp b;exact c ((List.getElem_inj hn).mp (f1.trans (e.trans f2.symm)))
def eJ(xs:Array Keyed)(lo hi:Nat):Prop:=∀i j,lo<=i->i<=j->j<hi->K xs i<=K xs j
def Sg(xs:Array Keyed)(lo hi:Nat):Prop:=∀i j,lo<=i->i<=j->j<hi->K xs j<=K xs i
section
variable{prog:Program}{w:World}{A:Around}{E:Value->Shared->Prop}{s:Shared}
theorem jO{st:SortSt}{i j:Nat}{Q:Option Bool->SortSt->Prop}(a:SB a₀ p st)(d:IntKeys a₀)(hi:i<a₀.size)(hj:j<a₀.size)(h:Q (some (decide (K (arrOf st) i<K (arrOf st) j))) st):wpS (model prog w) A E s (ltAt' i j) Q st:=by obtain⟨x,b,i1⟩:=a.at d hi;obtain⟨y,c,i2⟩:=a.at d hj;rw[aE b,aE c]at h;rw[ltAt'_eq];exact wpS_bind (wpS_get (wpS_bind (aU b (wpS_bind (aU c (w_lt a.kind i1 i2 h))))))
theorem CI{st:SortSt}{lo n ok:Nat}{Q:Bool->SortSt->Prop}(v:IntKeys a₀)(hn:lo+n<=a₀.size)(bc:ok<=n)(y:SB a₀ p st)(F:eJ (arrOf st) lo (lo+ok))(h:∀aG,SB a₀ p aG->eJ (arrOf aG) lo (lo+n)->(∀i,i<lo->K (arrOf aG) i=K (arrOf st) i)->Q true aG):wpS (model prog w) A E s (binarySort' lo n ok) Q st:=by
 refine wpS_bind (wpS_mono (wpS_forRange (I:=λk c aG=>c=(none,())/\SB a₀ p aG/\eJ (arrOf aG) lo (lo+min k n)/\∀i,i<lo->K (arrOf aG) i=K (arrOf st) i) (Q:=λc aG=>c=(none,())/\SB a₀ p aG/\eJ (arrOf aG) lo (lo+n)/\∀i,i<lo->K (arrOf aG) i=K (arrOf st) i) ?_ ?_ ?_) ?_)
 ·rintro k c aG G H⟨rfl,d,b,g⟩;rw[show min k n=k by omega]at b;refine wpS_bind (wpS_mono (wpS_forRange (I:=λx c a=>a=aG/\∃l r,c=(none,l,r)/\l<=r/\r<=k/\r-l<=k-x/\(∀i,i<l->K (arrOf aG) (lo+i)<=K (arrOf aG) (lo+k))/\(∀i,r<=i->i<k->K (arrOf aG) (lo+k)<K (arrOf aG) (lo+i))) (Q:=λc a=>a=aG/\∃l r,c=(none,l,r)/\l<=k/\(∀i,i<l->K (arrOf aG) (lo+i)<=K (arrOf aG) (lo+k))/\(∀i,l<=i->i<k->K (arrOf aG) (lo+k)<K (arrOf aG) (lo+i))) ?_ ?_ ?_) ?_)
  ·rintro x c a _ L⟨rfl,l,r,rfl,D,o,hm,f,e⟩;dsimp only;by_cases t:l>=r
   ·rw[if_pos t];have :l=r:=by omega
    subst this;exact wpS_pure ⟨rfl,l,l,rfl,o,f,e⟩
   ·rw[if_neg t];refine wpS_bind (jO d v (by omega) (by omega) ?_);by_cases m:K (arrOf a) (lo+k)<K (arrOf a) (lo+(l+r)/2);·simp only[m,decide_true,if_true];refine wpS_pure ⟨rfl,l,(l+r)/2,rfl,by omega,by omega,by omega,f,λi h1 h2=>?_⟩;exact Int.lt_of_lt_of_le m (b _ _ (by omega) (by omega) (by omega))
    ·simp only[m,decide_false,gK,if_false];refine wpS_pure ⟨rfl,(l+r)/2+1,r,rfl,by omega,by omega,by omega,λi h1=>?_,e⟩;exact Int.le_trans (b (lo+i) (lo+(l+r)/2) (by omega) (by omega) (by omega)) (Int.not_lt.mp m)
  ·rintro c a⟨rfl,l,r,rfl,D,o,hm,f,e⟩;have :l=r:=by omega
   subst this;exact⟨rfl,l,l,rfl,o,f,e⟩
  ·exact⟨rfl,0,k,rfl,by omega,by omega,by omega,λi hi=>by omega,λi h1 h2=>by omega⟩
  ·rintro c a⟨rfl,l,r,rfl,J,f,e⟩;show wpS _ _ _ _ (do moveDown' (lo+k) (lo+l);pure (ForInStep.yield (none,()))) _ _;rw[moveDown'_eq];have B:lo+k<(arrOf a).size:=by rw[d.size];omega
   have q:∀j,K (bubble (arrOf a) (lo+k) (lo+k-(lo+l))) j=if j=lo+l then K (arrOf a) (lo+k)else if lo+l<j/\j<=lo+k then K (arrOf a) (j-1)else K (arrOf a) j:=by intro j;rw[K_bubble B (by omega),show lo+k-(lo+k-(lo+l))=lo+l by omega]
   refine wpS_bind (wpS_modify (wpS_pure ⟨rfl,d.setArr (bubble_perm _ _ _),?_,λi hi=>?_⟩))
   ·rw[show min (k+1) n=k+1 by omega];have C:∀i,lo<=i->i<lo+l->K (arrOf a) i<=K (arrOf a) (lo+k):=λi h1 h2=>by have :=f (i-lo) (by omega);rwa[show lo+(i-lo)=i by omega]at this
    have z:∀i,lo+l<=i->i<lo+k->K (arrOf a) (lo+k)<K (arrOf a) i:=λi h1 h2=>by have :=e (i-lo) (by omega) (by omega);rwa[show lo+(i-lo)=i by omega]at this
    intro i j hl u hj;show K (bubble (arrOf a) (lo+k) _) i<=K (bubble (arrOf a) (lo+k) _) j;rw[q,q];repeat' split
    all_goals first|(exfalso;omega)|exact Int.le_refl _|exact C _ (by omega) (by omega)|exact Int.le_of_lt (z _ (by omega) (by omega))|exact b _ _ (by omega) (by omega) (by omega)
   ·show K (bubble (arrOf a) (lo+k) _) i=_;rw[q,if_neg (by omega),if_neg (by omega)];exact g i hi
 ·rintro c aG⟨hc,d,b,g⟩;rw[show min (max (max ok 1) n) n=n by omega]at b;exact⟨hc,d,b,g⟩
 ·refine⟨rfl,y,λi j hl u hj=>?_,λ_ _=>rfl⟩;by_cases h1:ok=0
  ·have :i=j:=by omega
   subst this;exact Int.le_refl _
  ·exact F i j hl u (by omega)
 ·rintro c aG⟨rfl,d,b,g⟩;exact wpS_pure (h aG d b g)
theorem FI{st:SortSt}{lo a b:Nat}{f:Nat->Option (Option Nat)×Nat->StateT SortSt Sem (ForInStep (Option (Option Nat)×Nat))}(u:IntKeys a₀)(hn:lo+b<=a₀.size)(ha:1<=a)(g:a<=b)(v:SB a₀ p st)(k:∀x n(e:ForInStep (Option (Option Nat)×Nat)->SortSt->Prop),1<=n->n<b->(K (arrOf st) (lo+n)<K (arrOf st) (lo+n-1)->e (.done (none,n)) st)->(¬K (arrOf st) (lo+n)<K (arrOf st) (lo+n-1)->e (.yield (none,n+1)) st)->wpS (model prog w) A E s (f x (none,n)) e st)(r:eJ (arrOf st) lo (lo+a)):wpS (model prog w) A E s (forIn [a:b] (none,a) f) (λc aG=>aG=st/\∃n,c=(none,n)/\a<=n/\n<=b/\eJ (arrOf st) lo (lo+n)/\(n=b\/K (arrOf st) (lo+n)<K (arrOf st) (lo+n-1))) st:=by
 refine wpS_forRange (I:=λx c aG=>aG=st/\c=(none,x)/\eJ (arrOf st) lo (lo+x)) ?_ ?_ ⟨rfl,rfl,r⟩
 ·rintro x c aG h t⟨rfl,rfl,d⟩;refine k x x _ (by omega) t (λhl=>⟨rfl,x,rfl,h,by omega,d, .inr hl⟩) λhl=>⟨rfl,rfl,λi j hi m hj=>?_⟩;by_cases q:j<lo+x;·exact d i j hi m q
  ·have o:j=lo+x:=by omega
   subst o;by_cases l:i=lo+x;·subst l;exact Int.le_refl _
   ·exact Int.le_trans (d i (lo+x-1) hi (by omega) (by omega)) (Int.not_lt.mp hl)
 ·rintro c aG⟨rfl,rfl,d⟩;rw[show max a b=b by omega]at d⊢;exact⟨rfl,b,rfl,g,zQ04 _,d, .inl rfl⟩
theorem Aa{xs:Array Keyed}{i j:Nat}(hj:j<=xs.size)(k:Nat):K (mirror xs i j ((j-i)/2)) k=if i<=k/\k<j then K xs (i+j-1-k)else K xs k:=K_mirror hj k
theorem EV{st:SortSt}{lo d:Nat}{Q:Option Nat->SortSt->Prop}(e:IntKeys a₀)(hd:(kl a₀).Nodup)(hn:lo+d<=a₀.size)(h1:1<=d)(b:SB a₀ p st)(h:∀m aG,SB a₀ p aG->1<=m->m<=d->eJ (arrOf aG) lo (lo+m)->(∀i,i<lo->K (arrOf aG) i=K (arrOf st) i)->Q (some m) aG):wpS (model prog w) A E s (countRun' lo d) Q st:=by
 have one:∀st:SortSt,eJ (arrOf st) lo (lo+1):=λst i j hl g hj=>by
  have :i=j:=by omega
  subst this;exact Int.le_refl _
 refine wpS_bind (wpS_mono (FI e hn (zQ04 1) h1 b (λx n z B C q1 q2=>?_) (one st)) ?_)
 ·refine wpS_bind (jO b e (by omega) (by omega) ?_);by_cases hl:K (arrOf st) (lo+n)<K (arrOf st) (lo+n-1);·simp only[hl,decide_true,if_true];exact wpS_pure (q1 hl)
  ·simp only[hl,decide_false,gK,if_false];exact wpS_pure (q2 hl)
 rintro c aG⟨rfl,n,rfl,v,y,r,S⟩;dsimp only;by_cases q:n=d;·rw[if_pos (by simpa using q)];exact wpS_pure (h n _ b v y r λ_ _=>rfl)
 rw[if_neg (by simpa using q)];have hlt:=S.resolve_left q;by_cases u:n>1
 ·rw[if_pos u];refine wpS_bind (jO b e (by omega) (by omega) ?_);have ne:=b.ne hd (i:=lo) (j:=lo+n-1) (by omega) (by omega) (by omega);have le:=r lo (lo+n-1) (by omega) (by omega) (by omega);have hl:K (arrOf aG) lo<K (arrOf aG) (lo+n-1):=by omega
  simp only[hl,decide_true,if_true];exact wpS_pure (h n _ b v y r λ_ _=>rfl)
 rw[if_neg u];have R:n=1:=by omega
 subst R;refine wpS_bind (wpS_lift (wpAny_rule ⟨rfl,?_⟩));refine wpS_bind (wpS_mono (wpS_forRange (I:=λx c a=>a=aG/\c=(none,x,0)/\Sg (arrOf aG) lo (lo+x)) (Q:=λc a=>a=aG/\∃m,c=(none,m,0)/\2<=m/\m<=d/\Sg (arrOf aG) lo (lo+m)) ?_ ?_ ⟨rfl,rfl,?_⟩) ?_)
 ·rintro x c a G W⟨rfl,rfl,f⟩;dsimp only;refine wpS_bind (jO b e (by omega) (by omega) ?_);by_cases hl:K (arrOf a) (lo+x)<K (arrOf a) (lo+x-1)
  ·simp only[hl,decide_true,if_true];refine wpS_pure ⟨rfl,rfl,λi j hi g hj=>?_⟩;by_cases M:j<lo+x;·exact f i j hi g M
   ·have L:j=lo+x:=by omega
    subst L;by_cases o:i=lo+x;·subst o;exact Int.le_refl _
    ·exact Int.le_trans (Int.le_of_lt hl) (f i (lo+x-1) hi (by omega) (by omega))
  ·simp only[hl,decide_false,gK,if_false];refine wpS_bind (jO b e (by omega) (by omega) ?_);have ne:=b.ne hd (i:=lo+x) (j:=lo+x-1) (by omega) (by omega) (by omega);have O:K (arrOf a) (lo+x-1)<K (arrOf a) (lo+x):=by omega
   simp only[O,decide_true,if_true];exact wpS_pure ⟨rfl,x,rfl,G,by omega,f⟩
 ·rintro c a⟨rfl,rfl,f⟩;rw[show max (1+1) d=d by omega]at f⊢;exact⟨rfl,d,rfl,by omega,zQ04 _,f⟩
 ·intro i j hl g hj;by_cases o:i=j;·subst o;exact Int.le_refl _
  ·have D:i=lo:=by omega
   have F:j=lo+1:=by omega
   subst D;subst F;exact Int.le_of_lt hlt
 rintro c a⟨rfl,m,rfl,V,P,J⟩;dsimp only;rw[if_neg (by omega)];have t:lo+m<=(arrOf a).size:=by rw[b.size];omega
 refine wpS_bind (wpS_reverse ?_);have l:SB a₀ p (setArr a (mirror (arrOf a) lo (lo+m) ((lo+m-lo)/2))):=b.setArr (mirror_perm _ _ _ _);have H:∀i,i<lo->K (arrOf (setArr a (mirror (arrOf a) lo (lo+m) ((lo+m-lo)/2)))) i=K (arrOf a) i:=λi hi=>by show K (mirror (arrOf a) lo (lo+m) _) i=_;rw[Aa t,if_neg (by omega)]
 refine wpS_bind (wpS_mono (FI e hn (by omega) P l (λx n z B C q1 q2=>?_) ?_) ?_)
 ·refine wpS_bind (jO l e (by omega) (by omega) ?_);by_cases hl:K (arrOf (setArr a (mirror (arrOf a) lo (lo+m) ((lo+m-lo)/2)))) (lo+n)<K (arrOf (setArr a (mirror (arrOf a) lo (lo+m) ((lo+m-lo)/2)))) (lo+n-1);·simp only[hl,decide_true,if_true];exact wpS_pure (q1 hl)
  ·simp only[hl,decide_false,gK,if_false];exact wpS_pure (q2 hl)
 ·intro i j hl g hj;show K (mirror (arrOf a) lo (lo+m) _) i<=K (mirror (arrOf a) lo (lo+m) _) j;rw[Aa t,Aa t,if_pos (by omega),if_pos (by omega)];exact J _ _ (by omega) (by omega) (by omega)
 ·rintro c X⟨rfl,k,rfl,U,N,T,_⟩;exact wpS_pure (h k _ l (by omega) N T H)
end
end SR
end
section
namespace SR
open PySem PySem.Spec PyProof.Rows
structure IL(R:Keyed->Keyed->Prop)(out ca ra cb rb:List Keyed):Prop where
 perm:out.Perm (ca++cb)
 Oe:out.Pairwise R
 low:∀x,x∈out->∀y,y∈ra\/y∈rb->R x y
variable{R:Keyed->Keyed->Prop}{out ca ra cb rb:List Keyed}
theorem IL.sym(h:IL R out ca ra cb rb):IL R out cb rb ca ra:=⟨h.perm.trans List.perm_append_comm,h.Oe,λx a y b=>h.low x a y b.symm⟩
theorem IL.move(h:IL R out ca ra cb rb){m d c:List Keyed}(e:ra=m++d)(f:c=ca++m)(g:ra.Pairwise R)(hm:∀x,x∈m->∀y,y∈rb->R x y):IL R (out++m) c d cb rb:=by
 subst e f;obtain⟨s1,s2,i⟩:=List.pairwise_append.mp g;refine⟨?_,List.pairwise_append.mpr ⟨h.Oe,s1,λx a y b=>h.low x a y (.inl (jy _ b))⟩,λx a y b=>?_⟩;·refine(h.perm.append_right m).trans ?_;rw[List.append_assoc,List.append_assoc];exact List.Perm.append_left ca List.perm_append_comm
 ·rcases List.mem_append.mp a with a|a;·exact h.low x a y (b.imp (λz=>fJ _ z) id)
  ·exact b.elim (λz=>i x a y z) (λz=>hm x a y z)
noncomputable abbrev Le(x y:Keyed):Prop:=kv x<=kv y
noncomputable abbrev Ge(x y:Keyed):Prop:=kv y<=kv x
theorem q_{xs:Array Keyed}{i:Nat}{x:Keyed}(h:x∈xs.toList.drop i):∃j,i<=j/\j<xs.size/\xs[j]?=some x:=by obtain⟨k,a,e⟩:=qQ h;rw[List.getElem_drop]at e;rw[List.length_drop,Array.length_toList]at a;exact⟨i+k,by omega,by omega,by rw[<-Array.getElem?_toList,<-e];exact zQ03 _⟩
theorem BV{xs:Array Keyed}{i:Nat}{x:Keyed}(h:x∈xs.toList.take i):∃j,j<i/\j<xs.size/\xs[j]?=some x:=by obtain⟨k,a,e⟩:=qQ h;rw[List.getElem_take]at e;rw[List.length_take,Array.length_toList]at a;exact⟨k,by omega,by omega,by rw[<-Array.getElem?_toList,<-e];exact zQ03 _⟩
theorem A8{xs:Array Keyed}(h:eJ xs 0 xs.size):xs.toList.Pairwise Le:=by rw[List.pairwise_iff_getElem];intro i j hi hj a;rw[Array.length_toList]at hi hj;have :=h i j (zQ11 _) (Nat.le_of_lt a) hj;rw[aE (getElem?_pos xs i hi),aE (getElem?_pos xs j hj)]at this;exact this
theorem IG{xs:Array Keyed}(h:xs.toList.Pairwise Le):eJ xs 0 xs.size:=by
 intro i j _ a hj;by_cases e:i=j;·subst e;exact Int.le_refl _
 ·rw[List.pairwise_iff_getElem]at h;have :=h i j (by rw[Array.length_toList];omega) (by rw[Array.length_toList];omega) (by omega);rw[aE (getElem?_pos xs i (by omega)),aE (getElem?_pos xs j (by omega))];exact this
theorem iJ(xs:Array Keyed)(i k:Nat):(xs.extract i (i+k)).toList=(xs.toList.drop i).take k:=by rw[Array.toList_extract,List.extract_eq_take_drop,Nat.add_sub_cancel_left]
theorem mM(l:List Keyed)(i k:Nat):l.drop i=(l.drop i).take k++l.drop (i+k):=by rw[<-List.drop_drop];exact(List.take_append_drop k (l.drop i)).symm
theorem Ci(l:List Keyed)(i k:Nat):l.take (i+k)=l.take i++(l.drop i).take k:=List.take_add
def Lo(a b out:Array Keyed)(c d:Nat):Prop:=IL Le out.toList (a.toList.take c) (a.toList.drop c) (b.toList.take d) (b.toList.drop d)
variable{a b o:Array Keyed}{ia ib na nb:Nat}
theorem Lo.sym(h:Lo a b o ia ib):Lo b a o ib ia:=IL.sym h
theorem Lo.more(h:Lo a b o ia ib)(ha:eJ a 0 a.size)(k:Nat)(hm:∀i j,ia<=i->i<ia+k->i<a.size->ib<=j->j<b.size->K a i<=K b j):Lo a b (o++a.extract ia (ia+k)) (ia+k) ib:=by
 unfold Lo;rw[Array.toList_append,iJ];refine IL.move h (mM _ _ _) (Ci _ _ _) ((A8 ha).sublist (List.drop_sublist _ _)) λx d y g=>?_;obtain⟨j,m,n,f⟩:=q_ g;obtain⟨i,i1,i2,c⟩:=q_ (List.mem_of_mem_take d);have hi:∃i,ia<=i/\i<ia+k/\i<a.size/\a[i]?=some x:=by obtain⟨q,hq,e⟩:=qQ d;rw[List.getElem_take,List.getElem_drop]at e;rw[List.length_take,List.length_drop,Array.length_toList]at hq;exact⟨ia+q,by omega,by omega,by omega,by rw[<-Array.getElem?_toList,<-e];exact zQ03 _⟩
 obtain⟨i,i1,i2,l,c⟩:=hi;have :=hm i j i1 i2 l m n;rw[aE c,aE f]at this;exact this
theorem uE{x:Keyed}(e:a[ia]?=some x):o.push x=o++a.extract ia (ia+1):=by apply Array.toList_inj.mp;rw[Array.toList_push,Array.toList_append,iJ];obtain⟨h,e⟩:=Array.getElem?_eq_some_iff.mp e;rw[List.drop_eq_getElem_cons (by rw[Array.length_toList];exact h)];simp[e]
theorem Lo.one(h:Lo a b o ia ib)(ha:eJ a 0 a.size){x:Keyed}(e:a[ia]?=some x)(hm:∀j,ib<=j->j<b.size->K a ia<=K b j):Lo a b (o.push x) (ia+1) ib:=by
 rw[uE e];exact h.more ha 1 λi j h1 h2 _ h3 h4=>by
  have :i=ia:=by omega
  subst this;exact hm j h3 h4
def Mg(a b r:Array Keyed):Prop:=r.toList.Perm (a.toList++b.toList)/\r.toList.Pairwise Le
theorem vZ(xs:Array Keyed)(i:Nat)(h:i<=xs.size):xs.extract i=xs.extract i (i+(xs.size-i)):=by rw[show i+(xs.size-i)=xs.size by omega]
theorem Lo.end_(h:Lo a b o ia ib)(ha:eJ a 0 a.size)(hb:eJ b 0 b.size)(h1:ia<=a.size)(h2:ib<=b.size)(hm:∀i j,ia<=i->i<a.size->ib<=j->j<b.size->K a i<=K b j):Mg a b (o++a.extract ia++b.extract ib):=by have q1:=h.more ha (a.size-ia) λi j c1 _ c2 c d=>hm i j c1 c2 c d;have q2:=(q1.sym.more hb (b.size-ib) λi j _ _ _ c d=>by omega).sym;rw[<-vZ _ _ h1,<-vZ _ _ h2,show ia+(a.size-ia)=a.size by omega,show ib+(b.size-ib)=b.size by omega]at q2;refine⟨?_,q2.Oe⟩;have :=q2.perm;rwa[List.take_of_length_le (by rw[Array.length_toList];exact zQ04 _),List.take_of_length_le (by rw[Array.length_toList];exact zQ04 _)]at this
theorem Mg.sym{r:Array Keyed}(h:Mg a b r):Mg b a r:=⟨h.1.trans List.perm_append_comm,h.2⟩
def Hi(a b out:Array Keyed)(na nb:Nat):Prop:=IL Ge out.toList (a.toList.drop na).reverse (a.toList.take na).reverse (b.toList.drop nb).reverse (b.toList.take nb).reverse
theorem Hi.sym(h:Hi a b o na nb):Hi b a o nb na:=IL.sym h
theorem Hi.more(h:Hi a b o na nb)(ha:eJ a 0 a.size)(m:Nat)(c:m<=na)(hm:∀i j,m<=i->i<na->i<a.size->j<nb->j<b.size->K b j<=K a i):Hi a b (o++(a.extract m na).reverse) m nb:=by
 unfold Hi;have em:(a.extract m na).toList=(a.toList.take na).drop m:=by rw[Array.toList_extract,List.extract_eq_drop_take];rw[List.drop_take]
 have t1:a.toList.take na=a.toList.take m++(a.toList.take na).drop m:=by have :=List.take_append_drop m (a.toList.take na);rw[List.take_take,Nat.min_eq_left c]at this;exact this.symm
 have t2:a.toList.drop m=(a.toList.take na).drop m++a.toList.drop na:=by
  have :=congrArg (List.drop m) (List.take_append_drop na a.toList);rw[<-this,List.drop_append];congr 1;by_cases g:na<=a.toList.length;·rw[List.length_take,Nat.min_eq_left g,Nat.sub_eq_zero_of_le c,List.drop_zero]
  ·have z:List.drop na a.toList=[]:=List.drop_eq_nil_of_le (by omega);rw[z,List.drop_nil]
 rw[Array.toList_append,Array.toList_reverse,em];refine IL.move h (m:=((a.toList.take na).drop m).reverse) ?_ ?_ ?_ λx k y l=>?_;·rw[<-List.reverse_append,<-t1]
 ·rw[<-List.reverse_append,<-t2]
 ·exact List.pairwise_reverse.mpr ((A8 ha).sublist (List.take_sublist _ _))
 ·obtain⟨j,p,r,f⟩:=BV (List.mem_reverse.mp l);have hi:∃i,m<=i/\i<na/\i<a.size/\a[i]?=some x:=by obtain⟨q,hq,e⟩:=qQ (List.mem_reverse.mp k);rw[List.getElem_drop,List.getElem_take]at e;rw[List.length_drop,List.length_take,Array.length_toList]at hq;exact⟨m+q,by omega,by omega,by omega,by rw[<-Array.getElem?_toList,<-e];exact zQ03 _⟩
  obtain⟨i,i1,i2,n,d⟩:=hi;have :=hm i j i1 i2 n p r;rw[aE d,aE f]at this;exact this
theorem Hi.one(h:Hi a b o (na+1) nb)(ha:eJ a 0 a.size){x:Keyed}(e:a[na]?=some x)(hm:∀j,j<nb->j<b.size->K b j<=K a na):Hi a b (o.push x) na nb:=by
 have q:=h.more ha na (Nat.le_succ _) λi j h1 h2 _ h3 h4=>by
  have :i=na:=by omega
  subst this;exact hm j h3 h4
 have c:o.push x=o++(a.extract na (na+1)).reverse:=by
  have :a.extract na (na+1)=#[x]:=by have :=uE (o:=#[]) e;rw[Array.empty_append]at this;exact this.symm
  rw[this];simp
 rw[c];exact q
theorem Hi.end_(h:Hi a b o na nb)(ha:eJ a 0 a.size)(hb:eJ b 0 b.size)(hm:∀i j,i<na->i<a.size->j<nb->j<b.size->K a i<=K b j):Mg a b (a.extract 0 na++b.extract 0 nb++o.reverse):=by
 have q1:=(h.sym.more hb 0 (zQ11 _) λi j _ c1 c2 c d=>hm j i c d c1 c2).sym;have q2:=q1.more ha 0 (zQ11 _) λi j _ _ _ c _=>by omega
 have e:a.extract 0 na++b.extract 0 nb++o.reverse=(o++(b.extract 0 nb).reverse++(a.extract 0 na).reverse).reverse:=by simp[Array.append_assoc]
 rw[e];constructor;·rw[Array.toList_reverse];refine(List.reverse_perm _).trans (q2.perm.trans ?_);rw[List.drop_zero,List.drop_zero];exact(List.reverse_perm _).append (List.reverse_perm _)
 ·rw[Array.toList_reverse];exact List.pairwise_reverse.mpr q2.Oe
end SR
end
section
namespace SR
open PySem PySem.Spec PyProof.Rows
noncomputable def Bw:Array Keyed->Array Keyed->StateT SortSt Sem (Array Keyed):=sortPriv%PySem.Builtin.mergeLo
structure nc(st aG:SortSt):Prop where
 kind:kindOf aG=kindOf st
 arr:arrOf aG=arrOf st
 pend:pendingOf aG=pendingOf st
 failed:failedOf aG=failedOf st
theorem nc.refl(st:SortSt):nc st st:=⟨rfl,rfl,rfl,rfl⟩
theorem nc.e_{st aG:SortSt}(h:nc st aG)(g:Nat):nc st (SortSt.mk' (kindOf aG) (arrOf aG) (pendingOf aG) g (failedOf aG)):=⟨h.kind,h.arr,h.pend,h.failed⟩
variable{a b o:Array Keyed}{ia ib na nb:Nat}
theorem Hw{k:Int}{xs:Array Keyed}{i:Nat}(h:gq false k xs i=true):K xs i<=k:=by unfold gq at h;simp at h;exact h
theorem Ca{k:Int}{xs:Array Keyed}{i:Nat}(h:gq false k xs i=false):k<=K xs i:=by unfold gq at h;simp at h;omega
theorem BI{k:Int}{xs:Array Keyed}{i:Nat}(h:gq true k xs i=true):K xs i<=k:=by unfold gq at h;simp at h;omega
theorem tZ{k:Int}{xs:Array Keyed}{i:Nat}(h:gq true k xs i=false):k<=K xs i:=by unfold gq at h;simp at h;exact h
theorem at_of(c:∀x,x∈a.toList->IK x){i:Nat}(h:i<a.size):∃x,a[i]?=some x/\IK x:=⟨_,getElem?_pos a i h,c _ (by simp)⟩
section
variable{prog:Program}{w:World}{A:Around}{E:Value->Shared->Prop}{s:Shared}
theorem w_ite{σ d:Type}{c:Prop}[Decidable c]{m n:StateT σ Sem d}{Q:d->σ->Prop}{st:σ}(h1:c->wpS (model prog w) A E s m Q st)(h2:¬c->wpS (model prog w) A E s n Q st):wpS (model prog w) A E s (if c then m else n) Q st:=by
 by_cases hc:c;·rw[if_pos hc];exact h1 hc
 ·rw[if_neg hc];exact h2 hc
theorem zg{st:SortSt}{Q:Array Keyed->SortSt->Prop}(Y:kindOf st=oneType')(ha:eJ a 0 a.size)(hb:eJ b 0 b.size)(W:∀x,x∈a.toList->IK x)(T:∀x,x∈b.toList->IK x)(h1:1<=a.size)(h2:1<=b.size)(hF:∀i,i<a.size->K b 0<=K a i)(hL:∀j,j<b.size->K b j<=K a (a.size-1))(h:∀r aG,nc st aG->Mg a b r->Q r aG):wpS (model prog w) A E s (Bw a b) Q st:=by
 have last:∀{o:Array Keyed}{i j:Nat},Lo a b o i j->i+1=a.size->j<=b.size->Mg a b (o++b.extract j++a.extract i):=λ{o i j}hl e hj=>(hl.sym.end_ hb ha hj (by omega) λx y _ c2 V H=>by
  have :y=a.size-1:=by omega
  subst this;exact hL x c2).sym;have P:∀{o:Array Keyed}{i j:Nat},Lo a b o i j->j=b.size->i<=a.size->Mg a b (o++a.extract i++b.extract j):=λ{o i j}hl e hi=>hl.end_ ha hb hi (by omega) λx y _ _ V H=>by omega
 have iO:∀{o:Array Keyed}{i j:Nat},Lo a b o i j->i=a.size->j<=b.size->Mg a b (o++a.extract i++b.extract j):=λ{o i j}hl e hj=>hl.end_ ha hb (by omega) hj λx y c1 c2 _ _=>by omega
 refine wpS_bind (wpS_lift (wpAny_rule ⟨rfl,?_⟩));obtain⟨x0,e0,i0⟩:=at_of T (i:=0) (by omega);refine wpS_bind (aU e0 ?_);have Z:Lo a b #[x0] 0 1:=by have :Lo b a #[] 0 0:=⟨by simp,List.Pairwise.nil,λx hx=>by simp at hx⟩;exact(this.one hb e0 λj _ hj=>hF j hj).sym
 by_cases c1:1=b.size;·rw[if_pos (by simpa using c1)];exact wpS_pure (h _ _ (nc.refl _) (P Z c1 (zQ11 _)))
 rw[if_neg (by simpa using c1)];by_cases c2:0+1=a.size;·rw[if_pos (by simpa using c2)];exact wpS_pure (h _ _ (nc.refl _) (last Z c2 h2))
 rw[if_neg (by simpa using c2)];refine wpS_bind (wpS_get ?_);refine wpS_bind (wpS_mono (wpS_forRange (I:=λx c aG=>nc st aG/\∃o i j g,c=(none,o,i,j,g)/\Lo a b o i j/\i+1<a.size/\j<b.size/\x+1<=i+j) (Q:=λc aG=>nc st aG/\∃r z,c=(some r,z)/\Mg a b r) ?_ ?_ ⟨nc.refl _,_,_,_,_,rfl,Z,by omega,by omega,by omega⟩) ?_);rotate_left;·rintro c aG⟨_,o,i,j,g,rfl,_,q1,q2,q3⟩;omega
 ·rintro c aG⟨hs,r,z,rfl,hm⟩;exact wpS_pure (h _ _ hs hm)
 rintro x c MF _ hx⟨Jc,o1,i1,j1,g1,rfl,L1,p1,p2,p3⟩;dsimp only;refine wpS_bind (wpS_mono (wpS_forRange (I:=λ_ c aG=>aG=MF/\∃o i j q r,c=(none,o,i,j,q,r)/\Lo a b o i j/\i+1<a.size/\j<b.size/\x+1<=i+j) (Q:=λc aG=>aG=MF/\((∃r z,c=(some r,z)/\Mg a b r)\/∃o i j q r,c=(none,o,i,j,q,r)/\Lo a b o i j/\i+1<a.size/\j<b.size/\x+1<=i+j)) ?_ ?_ ⟨rfl,_,_,_,_,_,rfl,L1,p1,p2,p3⟩) ?_)
 ·rintro y c aG _ hy⟨rfl,o,i,j,q,r,rfl,L,q1,q2,q3⟩;dsimp only;obtain⟨u,D,iu⟩:=at_of T q2;obtain⟨v,m,U⟩:=at_of W (i:=i) (by omega);refine wpS_bind (aU D (wpS_bind (aU m (wpS_bind (w_lt (by rw[Jc.kind,Y]) iu U ?_)))));by_cases hl:kv u<kv v
  ·simp only[hl,decide_true,if_true];refine wpS_bind (aU D ?_);have C:Lo a b (o.push u) i (j+1):=(L.sym.one hb D λf c1 c2=>by have :=ha i f (zQ11 _) c1 c2;rw[aE m]at this;rw[aE D];omega).sym;by_cases d1:j+1=b.size;·rw[if_pos (by simpa using d1)];exact wpS_pure ⟨rfl, .inl ⟨_,_,rfl,P C d1 (by omega)⟩⟩
   rw[if_neg (by simpa using d1)];split;·exact wpS_pure ⟨rfl, .inr ⟨_,_,_,_,_,rfl,C,q1,by omega,by omega⟩⟩
   ·exact wpS_pure ⟨rfl,_,_,_,_,_,rfl,C,q1,by omega,by omega⟩
  ·simp only[hl,decide_false,gK,if_false];refine wpS_bind (aU m ?_);have C:Lo a b (o.push v) (i+1) j:=L.one ha m λd c1 c2=>by have :=hb j d (zQ11 _) c1 c2;rw[aE D]at this;rw[aE m];omega
   by_cases d1:i+1+1=a.size;·rw[if_pos (by simpa using d1)];exact wpS_pure ⟨rfl, .inl ⟨_,_,rfl,last C d1 (by omega)⟩⟩
   rw[if_neg (by simpa using d1)];split;·exact wpS_pure ⟨rfl, .inr ⟨_,_,_,_,_,rfl,C,by omega,q2,by omega⟩⟩
   ·exact wpS_pure ⟨rfl,_,_,_,_,_,rfl,C,by omega,q2,by omega⟩
 ·rintro c aG⟨rfl,z⟩;exact⟨rfl, .inr z⟩
 rintro c bJ⟨rfl,⟨r,z,rfl,hm⟩|⟨o2,i2,j2,q,r,rfl,L2,r1,r2,r3⟩⟩;·exact wpS_pure ⟨Jc,_,_,rfl,hm⟩
 dsimp only;refine wpS_bind (wpS_lift (wpAny_rule ⟨rfl,?_⟩));refine wpS_bind (wpS_mono (wpS_forRange (I:=λy c aG=>nc st aG/\∃o i j g q r,c=(none,o,i,j,g,q,r)/\Lo a b o i j/\i+1<a.size/\j<b.size/\x+1+y<=i+j) (Q:=λc aG=>nc st aG/\((∃r z,c=(some r,z)/\Mg a b r)\/∃o i j g q r,c=(none,o,i,j,g,q,r)/\Lo a b o i j/\i+1<a.size/\j<b.size/\x+2<=i+j)) ?_ ?_ ⟨Jc,_,_,_,_,_,_,rfl,L2,r1,r2,r3⟩) ?_)
 ·rintro y c aG _ hy⟨l,o,i,j,g,q,r,rfl,L,q1,q2,q3⟩;dsimp only;obtain⟨u,D,iu⟩:=at_of T q2;refine w_ite (λhg=>?_) λhg=>?_;all_goals
   refine wpS_bind (wpS_modify ?_);refine wpS_bind (aU D ?_);refine wpS_bind (dM (by rw[<-Y];exact l.kind) iu (λf nG=>at_of W (by omega)) (λf d c1 c2=>ha _ _ (zQ11 _) (by omega) (by omega)) (by omega) λk NL LQ NH=>?_);dsimp only;have G:Lo a b (o++a.extract i (i+k)) (i+k) j:=L.more ha k λf d c1 c2 V H R=>by have B:=Hw (LQ (f-i) (by omega));rw[show i+(f-i)=f by omega]at B;have S:=hb j d (zQ11 _) H R;rw[aE D]at S;omega
   have X:∀f,i+k<=f->f<a.size->K b j<=K a f:=λf c1 c2=>by have B:=Ca (NH (f-i) (by omega) (by omega));rw[show i+(f-i)=f by omega]at B;rw[aE D];exact B
   rcases(show k>0\/k=0 by omega)with kp|kz
   ·rw[if_pos kp];by_cases d1:i+k+1=a.size;·rw[if_pos (by simpa using d1)];exact wpS_pure ⟨l.e_ _, .inl ⟨_,_,rfl,last G d1 (by omega)⟩⟩
    rw[if_neg (by simpa using d1)];by_cases d2:i+k=a.size;·rw[if_pos (by simpa using d2)];exact wpS_pure ⟨l.e_ _, .inl ⟨_,_,rfl,iO G d2 (by omega)⟩⟩
    rw[if_neg (by simpa using d2)];have hlt:i+k+1<a.size:=by omega
    generalize o++a.extract i (i+k)=o3 at G⊢;have nL:i<=i+k:=by omega
    generalize i+k=O at G X hlt nL⊢;refine wpS_bind (aU D ?_);have C:Lo a b (o3.push u) O (j+1):=(G.sym.one hb D λf c1 c2=>X f c1 c2).sym;by_cases J:j+1=b.size;·rw[if_pos (by simpa using J)];exact wpS_pure ⟨l.e_ _, .inl ⟨_,_,rfl,P C J (by omega)⟩⟩
    rw[if_neg (by simpa using J)];obtain⟨v,m,U⟩:=at_of W (i:=O) (by omega);refine wpS_bind (aU m ?_);refine wpS_bind (dM (by rw[<-Y];exact l.kind) U (λf nG=>at_of T (by omega)) (λf d c1 c2=>hb _ _ (zQ11 _) (by omega) (by omega)) (by omega) λt Ce vE u0=>?_);dsimp only;have F:Lo a b (o3.push u++b.extract (j+1) (j+1+t)) O (j+1+t):=(C.sym.more hb t λd f c1 c2 V H R=>by have B:=BI (vE (d-(j+1)) (by omega));rw[show j+1+(d-(j+1))=d by omega]at B;have S:=ha O f (zQ11 _) H R;rw[aE m]at S;omega).sym;have N:∀d,j+1+t<=d->d<b.size->K a O<=K b d:=λd c1 c2=>by have B:=tZ (u0 (d-(j+1)) (by omega) (by omega));rw[show j+1+(d-(j+1))=d by omega]at B;rw[aE m];exact B
    rcases(show t>0\/t=0 by omega)with HV|HR
    ·rw[if_pos HV];by_cases M:j+1+t=b.size;·rw[if_pos (by simpa using M)];exact wpS_pure ⟨l.e_ _, .inl ⟨_,_,rfl,P F M (by omega)⟩⟩
     rw[if_neg (by simpa using M)];refine wpS_bind (aU m ?_);have n:=F.one ha m N;by_cases p:O+1+1=a.size;·rw[if_pos (by simpa using p)];exact wpS_pure ⟨l.e_ _, .inl ⟨_,_,rfl,last n p (by omega)⟩⟩
     rw[if_neg (by simpa using p)];split;·exact wpS_pure ⟨l.e_ _, .inr ⟨_,_,_,_,_,_,rfl,n,by omega,by omega,by omega⟩⟩
     ·exact wpS_pure ⟨l.e_ _,_,_,_,_,_,_,rfl,n,by omega,by omega,by omega⟩
    ·subst HR;rw[if_neg (by omega)];rw[Nat.add_zero,Array.extract_eq_empty_of_le (by omega),Array.append_empty]at F;refine wpS_bind (aU m ?_);have n:=F.one ha m (by rw[Nat.add_zero]at N;exact N);by_cases p:O+1+1=a.size;·rw[if_pos (by simpa using p)];exact wpS_pure ⟨l.e_ _, .inl ⟨_,_,rfl,last n p (by omega)⟩⟩
     rw[if_neg (by simpa using p)];split;·exact wpS_pure ⟨l.e_ _, .inr ⟨_,_,_,_,_,_,rfl,n,by omega,by omega,by omega⟩⟩
     ·exact wpS_pure ⟨l.e_ _,_,_,_,_,_,_,rfl,n,by omega,by omega,by omega⟩
   ·subst kz;rw[if_neg (by omega)];rw[Nat.add_zero]at X;rw[Nat.add_zero,Array.extract_eq_empty_of_le (by omega),Array.append_empty]at G;have hlt:=q1;have nL:i<=i:=zQ04 _;refine wpS_bind (aU D ?_);have C:Lo a b (o.push u) i (j+1):=(G.sym.one hb D λf c1 c2=>X f c1 c2).sym;by_cases J:j+1=b.size;·rw[if_pos (by simpa using J)];exact wpS_pure ⟨l.e_ _, .inl ⟨_,_,rfl,P C J (by omega)⟩⟩
    rw[if_neg (by simpa using J)];obtain⟨v,m,U⟩:=at_of W (i:=i) (by omega);refine wpS_bind (aU m ?_);refine wpS_bind (dM (by rw[<-Y];exact l.kind) U (λf nG=>at_of T (by omega)) (λf d c1 c2=>hb _ _ (zQ11 _) (by omega) (by omega)) (by omega) λt Ce vE u0=>?_);dsimp only;have F:Lo a b (o.push u++b.extract (j+1) (j+1+t)) i (j+1+t):=(C.sym.more hb t λd f c1 c2 V H R=>by have B:=BI (vE (d-(j+1)) (by omega));rw[show j+1+(d-(j+1))=d by omega]at B;have S:=ha i f (zQ11 _) H R;rw[aE m]at S;omega).sym;have N:∀d,j+1+t<=d->d<b.size->K a i<=K b d:=λd c1 c2=>by have B:=tZ (u0 (d-(j+1)) (by omega) (by omega));rw[show j+1+(d-(j+1))=d by omega]at B;rw[aE m];exact B
    rcases(show t>0\/t=0 by omega)with HV|HR
    ·rw[if_pos HV];by_cases M:j+1+t=b.size;·rw[if_pos (by simpa using M)];exact wpS_pure ⟨l.e_ _, .inl ⟨_,_,rfl,P F M (by omega)⟩⟩
     rw[if_neg (by simpa using M)];refine wpS_bind (aU m ?_);have n:=F.one ha m N;by_cases p:i+1+1=a.size;·rw[if_pos (by simpa using p)];exact wpS_pure ⟨l.e_ _, .inl ⟨_,_,rfl,last n p (by omega)⟩⟩
     rw[if_neg (by simpa using p)];split;·exact wpS_pure ⟨l.e_ _, .inr ⟨_,_,_,_,_,_,rfl,n,by omega,by omega,by omega⟩⟩
     ·exact wpS_pure ⟨l.e_ _,_,_,_,_,_,_,rfl,n,by omega,by omega,by omega⟩
    ·subst HR;rw[if_neg (by omega)];rw[Nat.add_zero,Array.extract_eq_empty_of_le (by omega),Array.append_empty]at F;refine wpS_bind (aU m ?_);have n:=F.one ha m (by rw[Nat.add_zero]at N;exact N);by_cases p:i+1+1=a.size;·rw[if_pos (by simpa using p)];exact wpS_pure ⟨l.e_ _, .inl ⟨_,_,rfl,last n p (by omega)⟩⟩
     rw[if_neg (by simpa using p)];split;·exact wpS_pure ⟨l.e_ _, .inr ⟨_,_,_,_,_,_,rfl,n,by omega,by omega,by omega⟩⟩
     ·exact wpS_pure ⟨l.e_ _,_,_,_,_,_,_,rfl,n,by omega,by omega,by omega⟩
 ·rintro c aG⟨l,o,i,j,g,q,r,rfl,L,q1,q2,q3⟩;exact⟨l, .inr ⟨_,_,_,_,_,_,rfl,L,q1,q2,by omega⟩⟩
 ·rintro c aG⟨l,⟨r,z,rfl,hm⟩|⟨o,i,j,g,q,r,rfl,L,q1,q2,q3⟩⟩;·exact wpS_pure ⟨l,_,_,rfl,hm⟩
  ·dsimp only;exact wpS_bind (wpS_modify (wpS_pure ⟨l.e_ _,_,_,_,_,rfl,L,q1,q2,by omega⟩))
end
end SR
end
section
namespace SR
open PySem PySem.Spec PyProof.Rows
noncomputable def BE:Array Keyed->Array Keyed->StateT SortSt Sem (Array Keyed):=sortPriv%PySem.Builtin.mergeHi
variable{a b o:Array Keyed}{ia ib na nb:Nat}
theorem Hi.dn(h:Hi a b o na nb)(ha:eJ a 0 a.size)(c:0<na){x:Keyed}(e:a[na-1]?=some x)(hm:∀j,j<nb->j<b.size->K b j<=K a (na-1)):Hi a b (o.push x) (na-1) nb:=Hi.one (na:=na-1) (by rwa[show na-1+1=na by omega]) ha e hm
section
variable{prog:Program}{w:World}{A:Around}{E:Value->Shared->Prop}{s:Shared}
theorem yG{st:SortSt}{Q:Array Keyed->SortSt->Prop}(X:kindOf st=oneType')(ha:eJ a 0 a.size)(hb:eJ b 0 b.size)(S:∀x,x∈a.toList->IK x)(W:∀x,x∈b.toList->IK x)(h1:1<=a.size)(h2:1<=b.size)(hF:∀i,i<a.size->K b 0<=K a i)(hL:∀j,j<b.size->K b j<=K a (a.size-1))(h:∀r aG,nc st aG->Mg a b r->Q r aG):wpS (model prog w) A E s (BE a b) Q st:=by
 have first:∀{o:Array Keyed}{i j:Nat},Hi a b o i j->j=1->Mg a b (b.extract 0 j++a.extract 0 i++o.reverse):=λ{o i j}hl e=>(hl.sym.end_ hb ha λx y c1 _ _ V=>by
  have :x=0:=by omega
  subst this;exact hF y V).sym;have M:∀{o:Array Keyed}{i j:Nat},Hi a b o i j->i=0->Mg a b (a.extract 0 i++b.extract 0 j++o.reverse):=λ{o i j}hl e=>hl.end_ ha hb λx y c1 _ _ _=>by omega
 have iM:∀{o:Array Keyed}{i j:Nat},Hi a b o i j->j=0->Mg a b (a.extract 0 i++b.extract 0 j++o.reverse):=λ{o i j}hl e=>hl.end_ ha hb λx y _ _ Z _=>by omega
 refine wpS_bind (wpS_lift (wpAny_rule ⟨rfl,?_⟩));obtain⟨x0,e0,i0⟩:=at_of S (i:=a.size-1) (by omega);refine wpS_bind (aU e0 ?_);have Y:Hi a b #[x0] (a.size-1) b.size:=by
  have :Hi a b #[] a.size b.size:=by refine⟨?_,List.Pairwise.nil,λx hx=>by simp at hx⟩;rw[List.drop_eq_nil_of_le (by simp),List.drop_eq_nil_of_le (by simp)];simp
  exact this.dn ha (by omega) e0 λj _ hj=>hL j hj
 by_cases c1:a.size-1=0;·rw[if_pos (by simpa using c1)];exact wpS_pure (h _ _ (nc.refl _) (M Y c1))
 rw[if_neg (by simpa using c1)];by_cases c2:b.size=1;·rw[if_pos (by simpa using c2)];exact wpS_pure (h _ _ (nc.refl _) (first Y c2))
 rw[if_neg (by simpa using c2)];refine wpS_bind (wpS_get ?_);refine wpS_bind (wpS_mono (wpS_forRange (I:=λx c aG=>nc st aG/\∃o i j g,c=(none,i,j,o,g)/\Hi a b o i j/\0<i/\i<a.size/\1<j/\j<=b.size/\i+j+x+1<=a.size+b.size) (Q:=λc aG=>nc st aG/\∃r z,c=(some r,z)/\Mg a b r) ?_ ?_ ⟨nc.refl _,_,_,_,_,rfl,Y,by omega,by omega,by omega,by omega,by omega⟩) ?_);rotate_left;·rintro c aG⟨_,o,i,j,g,rfl,_,q1,N,q2,O,q3⟩;omega
 ·rintro c aG⟨hs,r,z,rfl,hm⟩;exact wpS_pure (h _ _ hs hm)
 rintro x c MF _ hx⟨Jc,o1,i1,j1,g1,rfl,L1,p1,Uu,p2,VN,p3⟩;dsimp only;refine wpS_bind (wpS_mono (wpS_forRange (I:=λ_ c aG=>aG=MF/\∃o i j q r,c=(none,i,j,o,q,r)/\Hi a b o i j/\0<i/\i<a.size/\1<j/\j<=b.size/\i+j+x+1<=a.size+b.size) (Q:=λc aG=>aG=MF/\((∃r z,c=(some r,z)/\Mg a b r)\/∃o i j q r,c=(none,i,j,o,q,r)/\Hi a b o i j/\0<i/\i<a.size/\1<j/\j<=b.size/\i+j+x+1<=a.size+b.size)) ?_ ?_ ⟨rfl,_,_,_,_,_,rfl,L1,p1,Uu,p2,VN,p3⟩) ?_)
 ·rintro y c aG _ hy⟨rfl,o,i,j,q,r,rfl,L,q1,N,q2,O,q3⟩;dsimp only;obtain⟨u,D,iu⟩:=at_of W (i:=j-1) (by omega);obtain⟨v,k,U⟩:=at_of S (i:=i-1) (by omega);refine wpS_bind (aU D (wpS_bind (aU k (wpS_bind (w_lt (by rw[Jc.kind,X]) iu U ?_)))));by_cases hl:kv u<kv v
  ·simp only[hl,decide_true,if_true];refine wpS_bind (aU k ?_);have C:Hi a b (o.push v) (i-1) j:=L.dn ha q1 k λf c1 c2=>by have :=hb f (j-1) (zQ11 _) (by omega) (by omega);rw[aE D]at this;rw[aE k];omega
   by_cases d1:i-1=0;·rw[if_pos (by simpa using d1)];exact wpS_pure ⟨rfl, .inl ⟨_,_,rfl,M C d1⟩⟩
   rw[if_neg (by simpa using d1)];split;·exact wpS_pure ⟨rfl, .inr ⟨_,_,_,_,_,rfl,C,by omega,by omega,by omega,by omega,by omega⟩⟩
   ·exact wpS_pure ⟨rfl,_,_,_,_,_,rfl,C,by omega,by omega,by omega,by omega,by omega⟩
  ·simp only[hl,decide_false,gK,if_false];refine wpS_bind (aU D ?_);have C:Hi a b (o.push u) i (j-1):=(L.sym.dn hb (by omega) D λl c1 c2=>by have :=ha l (i-1) (zQ11 _) (by omega) (by omega);rw[aE k]at this;rw[aE D];omega).sym;by_cases d1:j-1=1;·rw[if_pos (by simpa using d1)];exact wpS_pure ⟨rfl, .inl ⟨_,_,rfl,first C d1⟩⟩
   rw[if_neg (by simpa using d1)];split;·exact wpS_pure ⟨rfl, .inr ⟨_,_,_,_,_,rfl,C,by omega,by omega,by omega,by omega,by omega⟩⟩
   ·exact wpS_pure ⟨rfl,_,_,_,_,_,rfl,C,by omega,by omega,by omega,by omega,by omega⟩
 ·rintro c aG⟨rfl,z⟩;exact⟨rfl, .inr z⟩
 rintro c bJ⟨rfl,⟨r,z,rfl,hm⟩|⟨o2,i2,j2,q,r,rfl,L2,r1,QH,r2,U8,r3⟩⟩;·exact wpS_pure ⟨Jc,_,_,rfl,hm⟩
 dsimp only;refine wpS_bind (wpS_lift (wpAny_rule ⟨rfl,?_⟩));refine wpS_bind (wpS_mono (wpS_forRange (I:=λy c aG=>nc st aG/\∃o i j g q r,c=(none,i,j,o,g,q,r)/\Hi a b o i j/\0<i/\i<a.size/\1<j/\j<=b.size/\i+j+x+1+y<=a.size+b.size) (Q:=λc aG=>nc st aG/\((∃r z,c=(some r,z)/\Mg a b r)\/∃o i j g q r,c=(none,i,j,o,g,q,r)/\Hi a b o i j/\0<i/\i<a.size/\1<j/\j<=b.size/\i+j+x+2<=a.size+b.size)) ?_ ?_ ⟨Jc,_,_,_,_,_,_,rfl,L2,r1,QH,r2,U8,r3⟩) ?_)
 ·rintro y c aG _ hy⟨d,o,i,j,g,q,r,rfl,L,q1,N,q2,O,q3⟩;dsimp only;obtain⟨u,D,iu⟩:=at_of W (i:=j-1) (by omega);refine w_ite (λhg=>?_) λhg=>?_;all_goals
   refine wpS_bind (wpS_modify ?_);refine wpS_bind (aU D ?_);refine wpS_bind (dM (by rw[<-X];exact d.kind) iu (λl nG=>at_of S (by omega)) (λl f c1 c2=>ha _ _ (zQ11 _) (by omega) (by omega)) (by omega) λm NL LQ NH=>?_);dsimp only;have P:Hi a b (o++(a.extract m i).reverse) m j:=L.more ha m NL λl f c1 c2 Z V c5=>by have B:=Ca (NH l (by omega) (by omega));rw[Nat.zero_add]at B;have R:=hb f (j-1) (zQ11 _) (by omega) (by omega);rw[aE D]at R;omega
   have Hy:∀l,l<m->l<a.size->K a l<=K b (j-1):=λl c1 c2=>by have B:=Hw (LQ l (by omega));rw[Nat.zero_add]at B;rw[aE D];exact B
   rcases(show i-m>0\/i=m by omega)with kp|kz
   ·rw[if_pos kp];by_cases d1:m=0;·rw[if_pos (by simpa using d1)];exact wpS_pure ⟨d.e_ _, .inl ⟨_,_,rfl,M P d1⟩⟩
    rw[if_neg (by simpa using d1)];generalize o++(a.extract m i).reverse=o3 at P⊢;have hlt:0<m:=by omega
    have hle:m<=i:=NL;refine wpS_bind (aU D ?_);have C:Hi a b (o3.push u) m (j-1):=(P.sym.dn hb (by omega) D Hy).sym;by_cases G:j-1=1;·rw[if_pos (by simpa using G)];exact wpS_pure ⟨d.e_ _, .inl ⟨_,_,rfl,first C G⟩⟩
    rw[if_neg (by simpa using G)];obtain⟨v,k,U⟩:=at_of S (i:=m-1) (by omega);refine wpS_bind (aU k ?_);refine wpS_bind (dM (by rw[<-X];exact d.kind) U (λl nG=>at_of W (by omega)) (λl f c1 c2=>hb _ _ (zQ11 _) (by omega) (by omega)) (by omega) λn Ce vE u0=>?_);dsimp only;have F:Hi a b (o3.push u++(b.extract n (j-1)).reverse) m n:=(C.sym.more hb n Ce λf l c1 c2 Z V c5=>by have B:=tZ (u0 f (by omega) (by omega));rw[Nat.zero_add]at B;have R:=ha l (m-1) (zQ11 _) (by omega) (by omega);rw[aE k]at R;omega).sym;have T:∀f,f<n->f<b.size->K b f<=K a (m-1):=λf c1 c2=>by have B:=BI (vE f (by omega));rw[Nat.zero_add]at B;rw[aE k];exact B
    rcases(show j-1-n>0\/n=j-1 by omega)with HV|HR
    ·rw[if_pos HV];by_cases H:n=1;·rw[if_pos (by simpa using H)];exact wpS_pure ⟨d.e_ _, .inl ⟨_,_,rfl,first F H⟩⟩
     rw[if_neg (by simpa using H)];by_cases J:n=0;·rw[if_pos (by simpa using J)];exact wpS_pure ⟨d.e_ _, .inl ⟨_,_,rfl,iM F J⟩⟩
     rw[if_neg (by simpa using J)];refine wpS_bind (aU k ?_);have p:=F.dn ha hlt k T;by_cases t:m-1=0;·rw[if_pos (by simpa using t)];exact wpS_pure ⟨d.e_ _, .inl ⟨_,_,rfl,M p t⟩⟩
     rw[if_neg (by simpa using t)];split;·exact wpS_pure ⟨d.e_ _, .inr ⟨_,_,_,_,_,_,rfl,p,by omega,by omega,by omega,by omega,by omega⟩⟩
     ·exact wpS_pure ⟨d.e_ _,_,_,_,_,_,_,rfl,p,by omega,by omega,by omega,by omega,by omega⟩
    ·subst HR;rw[if_neg (by omega)];rw[Array.extract_eq_empty_of_le (by omega),Array.reverse_empty,Array.append_empty]at F;refine wpS_bind (aU k ?_);have p:=F.dn ha hlt k T;by_cases t:m-1=0;·rw[if_pos (by simpa using t)];exact wpS_pure ⟨d.e_ _, .inl ⟨_,_,rfl,M p t⟩⟩
     rw[if_neg (by simpa using t)];split;·exact wpS_pure ⟨d.e_ _, .inr ⟨_,_,_,_,_,_,rfl,p,by omega,by omega,by omega,by omega,by omega⟩⟩
     ·exact wpS_pure ⟨d.e_ _,_,_,_,_,_,_,rfl,p,by omega,by omega,by omega,by omega,by omega⟩
   ·subst kz;rw[if_neg (by omega)];rw[Array.extract_eq_empty_of_le (by omega),Array.reverse_empty,Array.append_empty]at P;have hlt:0<i:=q1;have hle:i<=i:=zQ04 _;refine wpS_bind (aU D ?_);have C:Hi a b (o.push u) i (j-1):=(P.sym.dn hb (by omega) D Hy).sym;by_cases G:j-1=1;·rw[if_pos (by simpa using G)];exact wpS_pure ⟨d.e_ _, .inl ⟨_,_,rfl,first C G⟩⟩
    rw[if_neg (by simpa using G)];obtain⟨v,k,U⟩:=at_of S (i:=i-1) (by omega);refine wpS_bind (aU k ?_);refine wpS_bind (dM (by rw[<-X];exact d.kind) U (λl nG=>at_of W (by omega)) (λl f c1 c2=>hb _ _ (zQ11 _) (by omega) (by omega)) (by omega) λn Ce vE u0=>?_);dsimp only;have F:Hi a b (o.push u++(b.extract n (j-1)).reverse) i n:=(C.sym.more hb n Ce λf l c1 c2 Z V c5=>by have B:=tZ (u0 f (by omega) (by omega));rw[Nat.zero_add]at B;have R:=ha l (i-1) (zQ11 _) (by omega) (by omega);rw[aE k]at R;omega).sym;have T:∀f,f<n->f<b.size->K b f<=K a (i-1):=λf c1 c2=>by have B:=BI (vE f (by omega));rw[Nat.zero_add]at B;rw[aE k];exact B
    rcases(show j-1-n>0\/n=j-1 by omega)with HV|HR
    ·rw[if_pos HV];by_cases H:n=1;·rw[if_pos (by simpa using H)];exact wpS_pure ⟨d.e_ _, .inl ⟨_,_,rfl,first F H⟩⟩
     rw[if_neg (by simpa using H)];by_cases J:n=0;·rw[if_pos (by simpa using J)];exact wpS_pure ⟨d.e_ _, .inl ⟨_,_,rfl,iM F J⟩⟩
     rw[if_neg (by simpa using J)];refine wpS_bind (aU k ?_);have p:=F.dn ha hlt k T;by_cases t:i-1=0;·rw[if_pos (by simpa using t)];exact wpS_pure ⟨d.e_ _, .inl ⟨_,_,rfl,M p t⟩⟩
     rw[if_neg (by simpa using t)];split;·exact wpS_pure ⟨d.e_ _, .inr ⟨_,_,_,_,_,_,rfl,p,by omega,by omega,by omega,by omega,by omega⟩⟩
     ·exact wpS_pure ⟨d.e_ _,_,_,_,_,_,_,rfl,p,by omega,by omega,by omega,by omega,by omega⟩
    ·subst HR;rw[if_neg (by omega)];rw[Array.extract_eq_empty_of_le (by omega),Array.reverse_empty,Array.append_empty]at F;refine wpS_bind (aU k ?_);have p:=F.dn ha hlt k T;by_cases t:i-1=0;·rw[if_pos (by simpa using t)];exact wpS_pure ⟨d.e_ _, .inl ⟨_,_,rfl,M p t⟩⟩
     rw[if_neg (by simpa using t)];split;·exact wpS_pure ⟨d.e_ _, .inr ⟨_,_,_,_,_,_,rfl,p,by omega,by omega,by omega,by omega,by omega⟩⟩
     ·exact wpS_pure ⟨d.e_ _,_,_,_,_,_,_,rfl,p,by omega,by omega,by omega,by omega,by omega⟩
 ·rintro c aG⟨d,o,i,j,g,q,r,rfl,L,q1,N,q2,O,q3⟩;exact⟨d, .inr ⟨_,_,_,_,_,_,rfl,L,q1,N,q2,O,by omega⟩⟩
 ·rintro c aG⟨d,⟨r,z,rfl,hm⟩|⟨o,i,j,g,q,r,rfl,L,q1,N,q2,O,q3⟩⟩;·exact wpS_pure ⟨d,_,_,rfl,hm⟩
  ·dsimp only;exact wpS_bind (wpS_modify (wpS_pure ⟨d.e_ _,_,_,_,_,rfl,L,q1,N,q2,O,by omega⟩))
end
end SR
end
section
namespace SR
open PySem PySem.Spec PyProof.Rows
theorem j0{xs:Array Keyed}{i j q:Nat}(h:i+q<j):K (xs.extract i j) q=K xs (i+q):=by
 refine K_congr ?_;rw[Array.getElem?_extract];split;·rfl
 ·rename_i hh;rw[Array.getElem?_eq_none (by omega)]
theorem oD(sa:Nat):∀(l:List Keyed)(m:Nat)(xs:Array Keyed),sa+m+l.length<=xs.size->(List.foldl (λ(a:Array Keyed)(x:Keyed×Nat)=>a.setIfInBounds (sa+x.2) x.1) xs (l.zipIdx m)).toList=xs.toList.take (sa+m)++l++xs.toList.drop (sa+m+l.length)
 |[],m,xs,_=>by simp
 |x::l,m,xs,h=>by
  rw[gH]at h;rw[List.zipIdx_cons,List.foldl_cons,oD sa l (m+1) _ (by rw[Array.size_setIfInBounds];omega)];dsimp only;rw[Array.toList_setIfInBounds];have b:(xs.toList.set (sa+m) x).take (sa+(m+1))=xs.toList.take (sa+m)++[x]:=by rw[show sa+(m+1)=sa+m+1 by omega,List.take_succ,List.take_set_of_le (zQ04 _)];rw[List.getElem?_set_self (by rw[Array.length_toList];omega)];rfl
  have c:(xs.toList.set (sa+m) x).drop (sa+(m+1)+l.length)=xs.toList.drop (sa+m+(x::l).length):=by rw[List.drop_set_of_lt (by omega),gH];congr 1;omega
  rw[b,c,List.append_assoc,List.append_assoc,List.append_assoc];rfl
section
variable{prog:Program}{w:World}{A:Around}{E:Value->Shared->Prop}{s:Shared}{a₀:Array Keyed}
theorem MG{σ:Type}{st aG:σ}{Q:PUnit->σ->Prop}(h:Q ⟨⟩ aG):wpS (model prog w) A E s (set aG:StateT σ Sem PUnit) Q st:=by unfold wpS;rw[StateT.run_set];exact zQ02 ⟨rfl,h⟩
theorem zc{st:SortSt}{c p pw:Nat}{Q:Bool->SortSt->Prop}(f:SB a₀ #[(0,c,pw),(c,p,0)] st)(F:IntKeys a₀)(hn:c+p=a₀.size)(p1:1<=c)(p2:1<=p)(s1:eJ (arrOf st) 0 c)(s2:eJ (arrOf st) c a₀.size)(h:∀aG,SB a₀ #[(0,c+p,pw)] aG->eJ (arrOf aG) 0 a₀.size->Q true aG):wpS (model prog w) A E s (mergeAt' 0) Q st:=by
 have lr:=f.size;refine wpS_bind (wpS_get ?_);have ep:=f.pend;show wpS (model prog w) A E s (match((pendingOf st)[0]?,(pendingOf st)[0+1]?)with|(some (sa,na,power),some (sb,nb,_))=>_|_=>_) Q st;rw[ep];refine wpS_bind (MG ?_);have G:SB a₀ #[(0,c+p,pw)] (SortSt.mk' (kindOf st) (arrOf st) (((pendingOf st).setIfInBounds 0 (0,c+p,pw)).eraseIdxIfInBounds (0+1)) (gallopOf st) (failedOf st)):=⟨f.perm,f.kind,f.failed,by show((pendingOf st).setIfInBounds 0 (0,c+p,pw)).eraseIdxIfInBounds (0+1)=_;rw[ep];simp[Array.eraseIdxIfInBounds,Array.eraseIdx]⟩;obtain⟨u,L,iu⟩:=f.at F (i:=c) (by omega);refine wpS_bind (aU L ?_);refine wpS_bind (dM f.kind iu (λi hi=>f.at F (by omega)) (λi j c1 c2=>s1 _ _ (zQ11 _) (by omega) (by omega)) (by omega) λk k1 Y k3=>?_);simp only[Nat.zero_add]at Y k3⊢;have P:∀i,i<k->K (arrOf st) i<=K (arrOf st) c:=λi hi=>by rw[aE L];exact Hw (Y i hi)
 have b2:∀i,k<=i->i<c->K (arrOf st) c<=K (arrOf st) i:=λi hi hj=>by rw[aE L];exact Ca (k3 i hi hj)
 by_cases c1:c-k=0
 ·rw[if_pos (by simpa using c1)];refine wpS_pure (h _ G λi j _ c2 z=>?_);by_cases d1:j<c;·exact s1 i j (zQ11 _) c2 d1
  by_cases d2:i<c;·exact Int.le_trans (P i (by omega)) (s2 c j (zQ04 _) (by omega) z)
  ·exact s2 i j (by omega) c2 z
 rw[if_neg (by simpa using c1)];obtain⟨v,I,iv⟩:=f.at F (i:=k+(c-k)-1) (by omega);refine wpS_bind (aU I ?_);have ee:k+(c-k)-1=c-1:=by omega
 rw[ee]at I;refine wpS_bind (dM f.kind iv (λi hi=>f.at F (by omega)) (λi j c1 c2=>s2 _ _ (by omega) (by omega) (by omega)) (by omega) λm m1 m2 m3=>?_);have b3:∀j,c<=j->j<c+m->K (arrOf st) j<=K (arrOf st) (c-1):=λj c1 c2=>by have :=BI (m2 (j-c) (by omega));rw[show c+(j-c)=j by omega]at this;rw[aE I];exact this
 have R:∀j,c+m<=j->j<a₀.size->K (arrOf st) (c-1)<=K (arrOf st) j:=λj c1 c2=>by have :=tZ (m3 (j-c) (by omega) (by omega));rw[show c+(j-c)=j by omega]at this;rw[aE I];exact this
 dsimp only;by_cases c2:m=0
 ·rw[if_pos (by simpa using c2)];refine wpS_pure (h _ G λi j _ S z=>?_);by_cases d1:j<c;·exact s1 i j (zQ11 _) S d1
  by_cases d2:i<c;·exact Int.le_trans (s1 i (c-1) (zQ11 _) (by omega) (by omega)) (R j (by omega) z)
  ·exact s2 i j (by omega) S z
 rw[if_neg (by simpa using c2)];have M:((arrOf st).extract k c).size=c-k:=by rw[Array.size_extract];omega
 have zy:((arrOf st).extract c (c+m)).size=m:=by rw[Array.size_extract];omega
 have sx:eJ ((arrOf st).extract k c) 0 ((arrOf st).extract k c).size:=λi j _ c1 c2=>by rw[j0 (by omega),j0 (by omega)];exact s1 _ _ (zQ11 _) (by omega) (by omega)
 have sy:eJ ((arrOf st).extract c (c+m)) 0 ((arrOf st).extract c (c+m)).size:=λi j _ c1 c2=>by rw[j0 (by omega),j0 (by omega)];exact s2 _ _ (by omega) (by omega) (by omega)
 have all:∀x,x∈(arrOf st).toList->IK x:=λx d=>F x ((Array.perm_iff_toList_perm.mp f.perm).mem_iff.mp d);have lx:((arrOf st).extract k c).toList=((arrOf st).toList.drop k).take (c-k):=by have :=iJ (arrOf st) k (c-k);rwa[show k+(c-k)=c by omega]at this
 have ly:=iJ (arrOf st) c m;have N:∀x,x∈((arrOf st).extract k c).toList->IK x:=λx d=>all x (by rw[lx]at d;exact List.mem_of_mem_drop (List.mem_of_mem_take d));have O:∀x,x∈((arrOf st).extract c (c+m)).toList->IK x:=λx d=>all x (by rw[ly]at d;exact List.mem_of_mem_drop (List.mem_of_mem_take d));have U:∀i,i<((arrOf st).extract k c).size->K ((arrOf st).extract c (c+m)) 0<=K ((arrOf st).extract k c) i:=λi hi=>by rw[j0 (by omega),j0 (by omega)];exact b2 _ (by omega) (by omega)
 have V:∀j,j<((arrOf st).extract c (c+m)).size->K ((arrOf st).extract c (c+m)) j<=K ((arrOf st).extract k c) (((arrOf st).extract k c).size-1):=λj hj=>by rw[M,j0 (by omega),j0 (by omega),show k+(c-k-1)=c-1 by omega];exact b3 _ (by omega) (by omega)
 have fin:∀(r:Array Keyed)(aG:SortSt),nc (SortSt.mk' (kindOf st) (arrOf st) (((pendingOf st).setIfInBounds 0 (0,c+p,pw)).eraseIdxIfInBounds (0+1)) (gallopOf st) (failedOf st)) aG->Mg ((arrOf st).extract k c) ((arrOf st).extract c (c+m)) r->SB a₀ #[(0,c+p,pw)] (setArr aG (List.foldl (λ(a:Array Keyed)(x:Keyed×Nat)=>a.setIfInBounds (k+x.2) x.1) (arrOf aG) (r.toList.zipIdx 0)))/\eJ (List.foldl (λ(a:Array Keyed)(x:Keyed×Nat)=>a.setIfInBounds (k+x.2) x.1) (arrOf aG) (r.toList.zipIdx 0)) 0 a₀.size:=by
  intro r aG n hm;have hr:r.toList.length=c-k+m:=by rw[hm.1.length_eq,fK,Array.length_toList,Array.length_toList,M,zy]
  have J:arrOf aG=arrOf st:=n.arr;have H:=oD k r.toList 0 (arrOf aG) (by rw[J,hr];omega);rw[J,hr,Nat.add_zero,show k+(c-k+m)=c+m by omega]at H;rw[J];generalize List.foldl (λ(a:Array Keyed)(x:Keyed×Nat)=>a.setIfInBounds (k+x.2) x.1) (arrOf st) (r.toList.zipIdx 0)=Z at H⊢;have whole:(arrOf st).toList=(arrOf st).toList.take k++(((arrOf st).extract k c).toList++((arrOf st).extract c (c+m)).toList)++(arrOf st).toList.drop (c+m):=by rw[lx,ly];have t1:=mM (arrOf st).toList k (c-k);have t2:=mM (arrOf st).toList c m;rw[show k+(c-k)=c by omega]at t1;rw[List.append_assoc,List.append_assoc,<-t2,<-t1,List.take_append_drop]
  have zp:Z.toList.Perm (arrOf st).toList:=by refine List.Perm.trans ?_ (List.Perm.of_eq whole.symm);rw[H];exact(List.Perm.append_left _ hm.1).append_right _
  have zz:Z.size=a₀.size:=by rw[<-Array.length_toList,zp.length_eq,Array.length_toList,lr]
  refine⟨⟨(Array.perm_iff_toList_perm.mpr zp).trans f.perm,n.kind.trans f.kind,n.failed.trans f.failed,n.pend.trans G.pend⟩,?_⟩;have W:∀x,x∈((arrOf st).extract k c).toList->∃i,k<=i/\i<c/\(arrOf st)[i]?=some x:=λx d=>by obtain⟨q,hq,e⟩:=qQ d;rw[Array.length_toList,M]at hq;refine⟨k+q,by omega,by omega,?_⟩;have :=Array.getElem?_extract (xs:=arrOf st) (start:=k) (stop:=c) (i:=q);rw[if_pos (by omega)]at this;rw[<-this,<-Array.getElem?_toList,<-e];exact zQ03 _
  have X:∀x,x∈((arrOf st).extract c (c+m)).toList->∃i,c<=i/\i<c+m/\(arrOf st)[i]?=some x:=λx d=>by obtain⟨q,hq,e⟩:=qQ d;rw[Array.length_toList,zy]at hq;refine⟨c+q,by omega,by omega,?_⟩;have :=Array.getElem?_extract (xs:=arrOf st) (start:=c) (stop:=c+m) (i:=q);rw[if_pos (by omega)]at this;rw[<-this,<-Array.getElem?_toList,<-e];exact zQ03 _
  have low:∀x y,x∈(arrOf st).toList.take k->y∈r.toList\/y∈(arrOf st).toList.drop (c+m)->Le x y:=λx y d g=>by
   obtain⟨i,i1,_,C⟩:=BV d;have t:=P i i1;rw[aE C]at t;have T:∀j,c<=j->j<a₀.size->∀y,(arrOf st)[j]?=some y->Le x y:=λj B D y o=>by have :=s2 c j (zQ04 _) B D;rw[aE o]at this;exact Int.le_trans t this
   rcases g with g|g
   ·rcases List.mem_append.mp (hm.1.mem_iff.mp g)with g|g;·obtain⟨j,B,D,o⟩:=W y g;have :=s1 i j (zQ11 _) (by omega) D;rw[aE C,aE o]at this;exact this
    ·obtain⟨j,B,D,o⟩:=X y g;exact T j B (by omega) y o
   ·obtain⟨j,B,D,o⟩:=q_ g;exact T j (by omega) (by omega) y o
  have mid:∀x y,x∈r.toList->y∈(arrOf st).toList.drop (c+m)->Le x y:=λx y d g=>by
   obtain⟨j,B,D,o⟩:=q_ g;rcases List.mem_append.mp (hm.1.mem_iff.mp d)with d|d;·obtain⟨i,i1,i2,C⟩:=W x d;have t1:=s1 i (c-1) (zQ11 _) (by omega) (by omega);have t2:=R j B (by omega);rw[aE C]at t1;rw[aE o]at t2;exact Int.le_trans t1 t2
   ·obtain⟨i,i1,i2,C⟩:=X x d;have :=s2 i j i1 (by omega) (by omega);rw[aE C,aE o]at this;exact this
  have pw:Z.toList.Pairwise Le:=by
   rw[H,List.append_assoc];have pk:∀(lo hi:Nat)(l:List Keyed),eJ (arrOf st) lo hi->(∀q x,l[q]?=some x->(arrOf st)[lo+q]?=some x/\lo+q<hi)->l.Pairwise Le:=λlo hi l n hl=>by rw[List.pairwise_iff_getElem];intro i j hi hj tE;obtain⟨e1,_⟩:=hl i _ (zQ03 hi);obtain⟨e2,l2⟩:=hl j _ (zQ03 hj);have :=n (lo+i) (lo+j) (by omega) (by omega) l2;rw[aE e1,aE e2]at this;exact this
   refine List.pairwise_append.mpr ⟨pk 0 c _ s1 λq x e=>?_,List.pairwise_append.mpr ⟨hm.2,pk (c+m) a₀.size _ (λi j c1 c2 z=>s2 i j (by omega) c2 z) λq x e=>?_,λx d y g=>mid x y d g⟩,λx d y g=>low x y d (List.mem_append.mp g)⟩
   ·rw[List.getElem?_take]at e;split at e;·rw[Array.getElem?_toList]at e;rw[Nat.zero_add];exact⟨e,by omega⟩
    ·cases e
   ·rw[List.getElem?_drop,Array.getElem?_toList]at e;exact⟨e,by have :=(Array.getElem?_eq_some_iff.mp e).1;omega⟩
  rw[<-zz];exact IG pw
 refine w_ite (λ_=>?_) λ_=>?_
 ·refine wpS_bind (zg (a:=(arrOf st).extract k c) (b:=(arrOf st).extract c (c+m)) G.kind sx sy N O (by omega) (by omega) U V λr aG n hm=>?_);obtain⟨f1,f2⟩:=fin r aG n hm;refine wpS_bind (wpS_modify (wpS_bind (wpS_get (wpS_pure ?_))));have q:(failedOf aG).isNone=true:=by rw[n.failed];show(failedOf st).isNone=true;rw[f.failed];rfl
  show Q (failedOf aG).isNone _;rw[q];exact h _ f1 f2
 ·refine wpS_bind (yG (a:=(arrOf st).extract k c) (b:=(arrOf st).extract c (c+m)) G.kind sx sy N O (by omega) (by omega) U V λr aG n hm=>?_);obtain⟨f1,f2⟩:=fin r aG n hm;refine wpS_bind (wpS_modify (wpS_bind (wpS_get (wpS_pure ?_))));have q:(failedOf aG).isNone=true:=by rw[n.failed];show(failedOf st).isNone=true;rw[f.failed];rfl
  show Q (failedOf aG).isNone _;rw[q];exact h _ f1 f2
end
theorem yy{n:Nat}(h1:64<=n)(h2:n<128):minRun' n n 0=n/2+n%2:=by
 obtain⟨f,a⟩:∃f,n=f+1+1:=⟨n-2,by omega⟩;have :minRun' (f+1+1) n 0=n/2+n%2:=by rw[minRun'_succ,if_neg (by omega),minRun'_succ,if_pos (by omega)];omega
 rwa[<-a]at this
section
variable{prog:Program}{w:World}{A:Around}{E:Value->Shared->Prop}{s:Shared}{a₀:Array Keyed}
noncomputable def ik(a₀:Array Keyed)(st:SortSt):Prop:=(SB a₀ #[(0,a₀.size,0)] st/\eJ (arrOf st) 0 a₀.size)\/∃a b pw,SB a₀ #[(0,a,pw),(a,b,0)] st/\a+b=a₀.size/\1<=a/\1<=b/\eJ (arrOf st) 0 a/\eJ (arrOf st) a a₀.size
theorem vQ{st:SortSt}{Q:Unit->SortSt->Prop}(u:IntKeys a₀)(hd:(kl a₀).Nodup)(J:SB a₀ #[] st)(h1:64<=a₀.size)(h2:a₀.size<128)(h:∀aG,(arrOf aG).Perm a₀->failedOf aG=none->eJ (arrOf aG) 0 a₀.size->Q () aG):wpS (model prog w) A E s sortRuns' Q st:=by
 rw[sortRuns'_eq];refine wpS_bind (wpS_get ?_);dsimp only;simp only[J.size,yy h1 h2];obtain⟨g,U⟩:∃g,g=a₀.size/2+a₀.size%2:=⟨_,rfl⟩;rw[<-U];refine wpS_bind (wpS_mono (wpS_forRange (I:=λx c aG=>(x=0/\c=(none,0)/\SB a₀ #[] aG)\/(x=1/\∃b,c=(none,b)/\b<a₀.size/\1<=b/\g<=b/\SB a₀ #[(0,b,0)] aG/\eJ (arrOf aG) 0 b)\/(1<=x/\c=(none,a₀.size)/\ik a₀ aG)) (Q:=λc aG=>c=(none,a₀.size)/\ik a₀ aG) ?_ ?_ (.inl ⟨rfl,rfl,J⟩)) ?_)
 ·rintro x c aG _ B(⟨rfl,rfl,G⟩|⟨rfl,b,rfl,Y,P,Z,G,W⟩|⟨RZ,rfl,hT⟩)
  ·dsimp only;rw[if_neg (by omega)];have fin:∀n a,SB a₀ #[] a->1<=n->n<=a₀.size->g<=n->eJ (arrOf a) 0 n->(0+1=0/\((none,0+n):Option Unit×Nat)=(none,0)/\SB a₀ #[] (setPending a ((pendingOf a).push (0,n,0))))\/(0+1=1/\∃b,((none,0+n):Option Unit×Nat)=(none,b)/\b<a₀.size/\1<=b/\g<=b/\SB a₀ #[(0,b,0)] (setPending a ((pendingOf a).push (0,n,0)))/\eJ (arrOf a) 0 b)\/(1<=0+1/\((none,0+n):Option Unit×Nat)=(none,a₀.size)/\ik a₀ (setPending a ((pendingOf a).push (0,n,0)))):=by
    intro n a d q1 q2 q3 q4;have k:SB a₀ #[(0,n,0)] (setPending a ((pendingOf a).push (0,n,0))):=⟨d.perm,d.kind,d.failed,by show(pendingOf a).push _=_;rw[d.pend];rfl⟩;by_cases e:n=a₀.size;·rw[e]at k q4⊢;exact .inr (.inr ⟨by omega,by rw[Nat.zero_add], .inl ⟨k,q4⟩⟩)
    ·exact .inr (.inl ⟨rfl,n,by rw[Nat.zero_add],by omega,q1,q3,k,q4⟩)
   refine wpS_bind (EV u hd (by omega) (by omega) G λm a d N T p _=>?_);rw[Nat.zero_add]at p;dsimp only;by_cases hlt:m<g
   ·rw[if_pos hlt];refine wpS_bind (wpS_lift (wpAny_rule ⟨rfl,?_⟩));have em:min (a₀.size-0) g=g:=by omega
    refine wpS_bind (CI (n:=min (a₀.size-0) g) u (by omega) (by omega) d (by rw[Nat.zero_add];exact p) λo k r _=>?_);refine w_ite (λz=>nomatch z) λ_=>?_;refine wpS_bind (wpS_get ?_);have hb:(pendingOf o).back?=none:=by rw[k.pend];rfl
    rw[hb];dsimp only;rw[Nat.zero_add]at r;exact wpS_bind (wpS_modify (wpS_pure (fin (min (a₀.size-0) g) o k (by omega) (by omega) (by omega) r)))
   ·rw[if_neg hlt];refine wpS_bind (wpS_get ?_);have hb:(pendingOf a).back?=none:=by rw[d.pend];rfl
    rw[hb];dsimp only;exact wpS_bind (wpS_modify (wpS_pure (fin m a d N (by omega) (by omega) p)))
  ·dsimp only;rw[if_neg (by omega)];have fin:∀n a,n=a₀.size-b->SB a₀ #[(0,b,0)] a->eJ (arrOf a) b (b+n)->(∀i,i<b->K (arrOf a) i=K (arrOf aG) i)->∀pw,(1+1=0/\((none,b+n):Option Unit×Nat)=(none,0)/\SB a₀ #[] (setPending (setPending a ((pendingOf a).modify ((pendingOf a).size-1) λ(st,len,_)=>(st,len,pw))) ((pendingOf (setPending a ((pendingOf a).modify ((pendingOf a).size-1) λ(st,len,_)=>(st,len,pw)))).push (b,n,0))))\/(1+1=1/\∃l,((none,b+n):Option Unit×Nat)=(none,l)/\l<a₀.size/\1<=l/\g<=l/\SB a₀ #[(0,l,0)] (setPending (setPending a ((pendingOf a).modify ((pendingOf a).size-1) λ(st,len,_)=>(st,len,pw))) ((pendingOf (setPending a ((pendingOf a).modify ((pendingOf a).size-1) λ(st,len,_)=>(st,len,pw)))).push (b,n,0)))/\eJ (arrOf a) 0 l)\/(1<=1+1/\((none,b+n):Option Unit×Nat)=(none,a₀.size)/\ik a₀ (setPending (setPending a ((pendingOf a).modify ((pendingOf a).size-1) λ(st,len,_)=>(st,len,pw))) ((pendingOf (setPending a ((pendingOf a).modify ((pendingOf a).size-1) λ(st,len,_)=>(st,len,pw)))).push (b,n,0)))):=by
    intro n a X d q4 C pw;have F:b+n=a₀.size:=by omega
    refine .inr (.inr ⟨by omega,by rw[F], .inr ⟨b,n,pw,⟨d.perm,d.kind,d.failed,?_⟩,F,P,by omega,λi j c1 c2 H=>?_,?_⟩⟩);·show((pendingOf a).modify ((pendingOf a).size-1) λ(st,len,_)=>(st,len,pw)).push (b,n,0)=_;rw[d.pend];simp
    ·show K (arrOf a) i<=K (arrOf a) j;rw[C i (by omega),C j H];exact W i j c1 c2 H
    ·rw[F]at q4;exact q4
   have O:∀(a:SortSt)(n:Nat)(D:_->SortSt->Prop)(f:Nat->Option Unit×Unit->StateT SortSt Sem (ForInStep (Option Unit×Unit))),SB a₀ #[(0,b,0)] a->(∀x y,y (.done (none,())) a->wpS (model prog w) A E s (f x (none,())) y a)->D (none,()) a->wpS (model prog w) A E s (forIn [0:a₀.size] (none,()) f) D a:=by
    intro a n D f d R hq;refine wpS_forRange (I:=λx c o=>o=a/\c=(none,())) ?_ ?_ ⟨rfl,rfl⟩;·rintro x c o _ _⟨rfl,rfl⟩;exact R x _ hq
    ·rintro c o⟨rfl,rfl⟩;exact hq
   refine wpS_bind (EV u hd (by omega) (by omega) G λm a d N T p M=>?_);dsimp only;by_cases hlt:m<g
   ·rw[if_pos hlt];refine wpS_bind (wpS_lift (wpAny_rule ⟨rfl,?_⟩));have em:min (a₀.size-b) g=a₀.size-b:=by omega
    refine wpS_bind (CI (n:=min (a₀.size-b) g) u (by omega) (by omega) d p λo k r S=>?_);refine w_ite (λz=>nomatch z) λ_=>?_;refine wpS_bind (wpS_get ?_);have hb:(pendingOf o).back?=some (0,b,0):=by rw[k.pend];rfl
    rw[hb];dsimp only;refine wpS_bind (O o m _ _ k (λx y q=>?_) ?_);·refine wpS_bind (wpS_get ?_);rw[k.pend];exact wpS_pure q
    ·exact wpS_bind (wpS_modify (wpS_bind (wpS_modify (wpS_pure (fin _ o em k r (λi hi=>(S i hi).trans (M i hi)) _)))))
   ·rw[if_neg hlt];refine wpS_bind (wpS_get ?_);have hb:(pendingOf a).back?=some (0,b,0):=by rw[d.pend];rfl
    rw[hb];dsimp only;refine wpS_bind (O a m _ _ d (λx y q=>?_) ?_);·refine wpS_bind (wpS_get ?_);rw[d.pend];exact wpS_pure q
    ·exact wpS_bind (wpS_modify (wpS_bind (wpS_modify (wpS_pure (fin m a (by omega) d p M _)))))
  ·dsimp only;rw[if_pos (zQ04 _)];exact wpS_pure ⟨rfl,hT⟩
 ·rintro c aG(⟨B,_⟩|⟨B,_⟩|⟨_,hc,hT⟩);·omega
  ·omega
  ·exact⟨hc,hT⟩
 rintro c aG⟨rfl,hT⟩;dsimp only;refine wpS_bind (wpS_mono (wpS_forRange (I:=λx c t=>c=(none,())/\((x=0/\ik a₀ t)\/∃pw,SB a₀ #[(0,a₀.size,pw)] t/\eJ (arrOf t) 0 a₀.size)) (Q:=λc t=>c=(none,())/\∃pw,SB a₀ #[(0,a₀.size,pw)] t/\eJ (arrOf t) 0 a₀.size) ?_ ?_ ⟨rfl, .inl ⟨rfl,hT⟩⟩) ?_)
 ·rintro x c a _ B⟨rfl,V⟩;have two:(∃pw,SB a₀ #[(0,a₀.size,pw)] a/\eJ (arrOf a) 0 a₀.size)\/∃b l pw,SB a₀ #[(0,b,pw),(b,l,0)] a/\b+l=a₀.size/\1<=b/\1<=l/\eJ (arrOf a) 0 b/\eJ (arrOf a) b a₀.size:=by
   rcases V with⟨_,z|z⟩|z;·exact .inl ⟨0,z⟩
   ·exact .inr z
   ·exact .inl z
  refine wpS_bind (wpS_get ?_);rcases two with⟨pw,hb,v⟩|⟨b,l,pw,hb,q1,q2,q3,q4,C⟩;·rw[if_pos (by rw[hb.pend];exact zQ04 1)];exact wpS_pure ⟨rfl,pw,hb,v⟩
  ·rw[if_neg (by rw[hb.pend];simp)];have e:(if(Option.any (λx=>decide (x<(pendingOf a)[(pendingOf a).size-2+1]?.elim 0 λx=>x.2.1)) (if(pendingOf a).size-2>0 then Option.map (λx=>x.2.1) (pendingOf a)[(pendingOf a).size-2-1]? else none))=true then(pendingOf a).size-2-1 else(pendingOf a).size-2)=0:=by rw[hb.pend];rfl
   show wpS (model prog w) A E s (mergeAt' (if(Option.any (λx=>decide (x<(pendingOf a)[(pendingOf a).size-2+1]?.elim 0 λx=>x.2.1)) (if(pendingOf a).size-2>0 then Option.map (λx=>x.2.1) (pendingOf a)[(pendingOf a).size-2-1]? else none))=true then(pendingOf a).size-2-1 else(pendingOf a).size-2)>>=_) _ a;rw[e];refine wpS_bind (zc hb u q1 q2 q3 q4 C λo L r=>?_);simp only[Bool.not_true,gK,if_false];rw[q1]at L;exact wpS_pure ⟨rfl, .inr ⟨pw,L,r⟩⟩
 ·rintro c a⟨rfl,⟨B,_⟩|⟨pw,hb,v⟩⟩;·omega
  ·exact⟨rfl,pw,hb,v⟩
 ·rintro c a⟨rfl,pw,hb,v⟩;exact wpS_pure (h _ hb.perm hb.failed v)
end
def yx(xs:Array Nat):Prop:=xs.toList.Pairwise (·<·)
theorem yx.lt{xs:Array Nat}(h:yx xs){i j:Nat}(a:i<j)(hj:j<xs.size):xs.getD i 0<xs.getD j 0:=by have :=List.pairwise_iff_getElem.mp h i j (by rw[Array.length_toList];omega) (by rw[Array.length_toList];omega) a;rw[Array.getD_eq_getD_getElem?,Array.getD_eq_getD_getElem?,getElem?_pos xs i (by omega),getElem?_pos xs j hj];exact this
theorem getD_in{xs:Array Nat}{i a b:Nat}(h:i<xs.size):xs.getD i a=xs.getD i b:=by rw[Array.getD_eq_getD_getElem?,Array.getD_eq_getD_getElem?,getElem?_pos xs i h];rfl
theorem lN{xs:Array Nat}(hr:yx xs)(j:Nat):∀(fuel lo hi:Nat),lo<=hi->hi<=xs.size->hi-lo<=fuel->(∀i,i<lo->xs.getD i 0<j)->(∀i,hi<=i->i<xs.size->j<=xs.getD i 0)->SetTable.below.go xs j fuel lo hi<=xs.size/\(∀i,i<SetTable.below.go xs j fuel lo hi->xs.getD i 0<j)/\(∀i,SetTable.below.go xs j fuel lo hi<=i->i<xs.size->j<=xs.getD i 0)
 |0,lo,hi,h1,h2,h3,h4,h5=>by
  have :lo=hi:=by omega
  subst this;exact⟨h2,h4,h5⟩
 |fuel+1,lo,hi,h1,h2,h3,h4,h5=>by
  unfold SetTable.below.go;by_cases hl:lo<hi
  ·rw[if_pos hl];dsimp only;have hm:(lo+hi)/2<xs.size:=by omega
   rw[getD_in (b:=0) hm];by_cases hc:xs.getD ((lo+hi)/2) 0<j
   ·rw[if_pos hc];refine lN hr j fuel _ hi (by omega) h2 (by omega) (λi a=>?_) h5;by_cases e:i=(lo+hi)/2;·subst e;exact hc
    ·exact Nat.lt_trans (hr.lt (j:=(lo+hi)/2) (by omega) hm) hc
   ·rw[if_neg hc];refine lN hr j fuel lo _ (by omega) (by omega) (by omega) h4 λi a c=>?_;by_cases e:i=(lo+hi)/2;·subst e;omega
    ·exact Nat.le_of_lt (Nat.lt_of_le_of_lt (Nat.not_lt.mp hc) (hr.lt (i:=(lo+hi)/2) (by omega) c))
  ·rw[if_neg hl];have :lo=hi:=by omega
   subst this;exact⟨h2,h4,h5⟩
theorem l6{xs:Array Nat}(hr:yx xs)(j:Nat):SetTable.below xs j<=xs.size/\(∀i,i<SetTable.below xs j->xs.getD i 0<j)/\(∀i,SetTable.below xs j<=i->i<xs.size->j<=xs.getD i 0):=lN hr j xs.size 0 xs.size (zQ11 _) (zQ04 _) (by omega) (λi hi=>by omega) λi h1 h2=>by omega
theorem vy{xs:Array Nat}(hr:yx xs){j:Nat}(hj:xs[SetTable.below xs j]?≠some j):yx (SetTable.insertAt xs (SetTable.below xs j) j):=by
 obtain⟨f,c,d⟩:=l6 hr j;unfold yx;rw[SetTable.toList_insertAt];have lo:∀x,x∈xs.toList.take (SetTable.below xs j)->x<j:=λx b=>by obtain⟨k,a,e⟩:=qQ b;rw[List.getElem_take]at e;rw[List.length_take,Array.length_toList]at a;have :=c k (by omega);rw[Array.getD_eq_getD_getElem?,getElem?_pos xs k (by omega)]at this;rw[<-e];exact this
 have hi:∀x,x∈xs.toList.drop (SetTable.below xs j)->j<x:=λx b=>by
  obtain⟨k,a,e⟩:=qQ b;rw[List.getElem_drop]at e;rw[List.length_drop,Array.length_toList]at a;have hb:SetTable.below xs j<xs.size:=by omega
  have g:=d (SetTable.below xs j) (zQ04 _) hb;have hne:xs.getD (SetTable.below xs j) 0≠j:=λz=>hj (by rw[Array.getD_eq_getD_getElem?,getElem?_pos xs _ hb]at z;rw[getElem?_pos xs _ hb];exact congrArg some z);have h1:xs.getD (SetTable.below xs j) 0<=xs.getD (SetTable.below xs j+k) 0:=by
   by_cases z:k=0;·subst z;exact zQ04 _
   ·exact Nat.le_of_lt (hr.lt (by omega) (by omega))
  have h2:xs.getD (SetTable.below xs j+k) 0=x:=by rw[Array.getD_eq_getD_getElem?,getElem?_pos xs _ (by omega)];exact e
  omega
 have whole:=hr;unfold yx at whole;rw[<-List.take_append_drop (SetTable.below xs j) xs.toList]at whole;obtain⟨h,i,l⟩:=List.pairwise_append.mp whole;refine List.pairwise_append.mpr ⟨?_,?_,?_⟩<;>simp_all[List.pairwise_append,List.pairwise_cons]
theorem yQ(n:Nat):yx (Array.range n):=by unfold yx;rw[Array.toList_range];exact List.pairwise_lt_range
structure Tbl(led:Bool)(t:SetTable):Prop where
 led:t.led=led
 P0:t.dummies=#[]
 N6:yx t.place
theorem Tbl.xi{led:Bool}{t:SetTable}(h:Tbl led t)(n:Nat):Tbl led (t.standIn n):=⟨h.led,rfl,yQ n⟩
theorem Tbl.DX{led:Bool}{t:SetTable}(h:Tbl led t)(n:Nat):Tbl led (t.orStandIn n):=by
 unfold SetTable.orStandIn;split;·exact h
 ·exact h.xi n
theorem nH{t:SetTable}(h:t.dummies=#[])(j:Nat):t.slot j≠ .dummy:=by
 unfold SetTable.slot SetTable.has;rw[h];dsimp only;split;·exactλz=>nomatch z
 ·rw[if_neg (by simp)];exactλz=>nomatch z
theorem ky{t:SetTable}(hd:t.dummies=#[]){f:Nat->Int}{h:Int}{j:Nat}{d:Option Nat}:∀(fuel:Nat)(p:SetTable.Probe),p.dummy=none->SetTable.probe.go t f h fuel p=some (.empty j d)->d=none/\t.slot j= .empty
 |0,p,_,e=>by unfold SetTable.probe.go at e;cases e
 |fuel+1,p,b,e=>by
  unfold SetTable.probe.go at e;have c:(t.advance p).dummy=none:=by unfold SetTable.advance;split<;>exact b
  cases a:t.slot p.j with
   |empty=>rw[a]at e;cases e;exact⟨b,a⟩
   |dummy=>exact absurd a (nH hd _)
   |live i=>
    rw[a]at e;dsimp only at e;split at e;·cases e
    ·exact ky hd fuel _ c e
theorem Tbl.lay{led:Bool}{t:SetTable}(h:Tbl led t)(es:Array (Int×Value))(a:Int)(x:Value):Tbl led (layNew t es a x).2.1:=by
 unfold layNew;cases e:t.freeSlot a with
  |none=>exact h.xi _
  |some r=>
   obtain⟨slot,g⟩:=r;dsimp only;refine Tbl.DX ?_ _;have :t.slot slot= .empty:=by unfold SetTable.freeSlot at e;cases b:t.probe (λ_=>a+1) a (t.probeStart a)with|none=>rw[b]at e;cases e|some m=>rw[b]at e;cases m with|candidate=>cases e|empty j d=>obtain⟨c,f⟩:=ky h.P0 _ _ rfl b;subst c;cases e;exact f
   have hne:t.place[SetTable.below t.place slot]?≠some slot:=λz=>by unfold SetTable.slot at this;dsimp only at this;rw[if_pos (by rw[z];exact beq_self_eq_true _)]at this;cases this
   refine⟨h.led,?_,vy h.N6 hne⟩;show(if SetTable.has t.dummies slot then _ else t.dummies)=_;rw[h.P0,if_neg (by unfold SetTable.has;simp)]
theorem mi{b:Type}(f:Nat->Option b):∀l:List Nat,((l.filterMap λj=>(f j).map λa=>(j,a)).map (·.1)).Sublist l|[]=>List.Sublist.refl _|j::l=>by rw[List.filterMap_cons];cases e:f j with|none=>exact(mi f l).cons _|some a=>exact(mi f l).cons₂ _
theorem Tbl.Li{led:Bool}{t:SetTable}(h:Tbl led t)(es:Array (Int×Value))(n:Nat):Tbl led (relayAll t es n).2.1:=by
 unfold relayAll SetTable.relaid SetTable.laid;cases SetTable.layClean (SetTable.sizeAbove n-1) (es.map (·.1))with
  |none=>exact h.xi _
  |some a=>
   dsimp only[Option.bind_eq_bind,Option.bind_some,Option.pure_def];split;·exact⟨h.led,rfl,List.Pairwise.sublist (mi (λj=>a.getD j none) _) List.pairwise_lt_range⟩
   ·exact h.xi _
theorem Tbl.fresh(led:Bool):Tbl led (.fresh 0 0 led):=⟨rfl,rfl,List.Pairwise.nil⟩
theorem Tbl.plain{led:Bool}{t:SetTable}(h:Tbl led t):Tbl led {t with plain:=false}:=⟨h.led,h.P0,h.N6⟩
noncomputable abbrev sobj(es:Array (Int×Value))(ep:Nat)(t:SetTable):Obj:={cls:= .type "set",dict:=none,data:= .set es ep t}
noncomputable abbrev ledW(w:World):Bool:=!w.params.followText "set-order"
noncomputable def keysOf(es:Array (Int×Value)):List Int:=es.toList.map λe=>numOf e.2
noncomputable def SetI(prog:Program)(w:World)(h:Heap)(a:Addr)(ks:List Int):Prop:=∃es ep t,h.get? a=some (sobj es ep t)/\ElemsOf (intKind prog w) es.toList/\(keysOf es).Perm ks/\es.size<scanBound/\t.fits es.size=true/\Tbl (ledW w) t
section
variable{prog:Program}{w:World}{A:Around}{E:Value->Shared->Prop}{s:Shared}{a:Addr}{ks:List Int}
theorem SetI.keep{h h':Heap}(S:SetI prog w h a ks)(k:∀o,h.get? a=some o->h'.get? a=some o):SetI prog w h' a ks:=let⟨es,ep,t,ho,r⟩:=S;⟨es,ep,t,k _ ho,r⟩
theorem Af(es:Array (Int×Value)):(keysOf es).length=es.size:=by unfold keysOf;rw[cT,Array.length_toList]
theorem DA{l:List (Int×Value)}(d:ElemsOf (intKind prog w) l)(k:Int):(∃e∈l,(intKind prog w).is k e.2=true)↔k∈l.map λe=>numOf e.2:=by
 rw[List.mem_map];constructor;·rintro⟨e,he,b⟩;obtain⟨t,ht⟩:=Value.isInt_shape b;exact⟨e,he,by rw[ht];rfl⟩
 ·rintro⟨e,he,b⟩;obtain⟨⟨f,c,_⟩,_⟩:=d e he;obtain⟨t,ht⟩:=Value.isInt_shape c;refine⟨e,he,?_⟩;rw[ht]at b;have :f=k:=b;subst this;exact c
theorem nO{g:Bool->Sem Unit}(u:∀(b:Bool)(s₁:Shared)(l:Unit->Shared->Prop),l () s₁->wpAny (model prog w) A (g b) l E s₁){es:Array (Int×Value)}{ep:Nat}{t:SetTable}(ho:s.heap.get? a=some (sobj es ep t)){c:Array (Int×Value)}{t2:SetTable}(o:ElemsOf (intKind prog w) c.toList)(p:(keysOf c).Perm ks)(i:c.size<scanBound)(r:t2.fits c.size=true)(q:Tbl (ledW w) t2){x:Bool}{R:Option Bool->Shared->Prop}(h:∀h',Heap.SameBut a s.heap h'->SetI prog w h' a ks->R (some true) {s with heap:=h'}):wpAny (model prog w) A (do storeSet a c t2;if(!x&&t2.tooFull)=true then do g (relayAll t2 c (SetTable.grown c.size)).2.2;storeSet a (relayAll t2 c (SetTable.grown c.size)).1 (relayAll t2 c (SetTable.grown c.size)).2.1;pure (some true)else pure (some true)) R E s:=by
 have put:∀{h:Heap}{es:Array (Int×Value)}{ep:Nat}{t:SetTable}(d:Array (Int×Value))(t':SetTable),h.get? a=some (sobj es ep t)->(h.update a (Obj.putSet d t')).get? a=some (sobj d (ep+1) t'):=λ{h es ep t}d t' e=>by have :=kX (Obj.putSet d t') e (by rw[putSet_of d t' rfl];rfl);rw[putSet_of d t' rfl]at this;exact this
 refine zQ00 (wpAny_storeSet_of ho rfl ?_ (fits_of_scanBound i));have q1:=put c t2 ho;have sb:=Heap.SameBut.update s.heap a (Obj.putSet c t2);split
 ·have f:=relayAll_perm t2 c (SetTable.grown c.size);have j:=relayAll_fits t2 c (SetTable.grown c.size);have k:=q.Li c (SetTable.grown c.size);generalize relayAll t2 c (SetTable.grown c.size)=Z at f j k⊢;obtain⟨m,v,y⟩:=Z;dsimp only at f j k⊢;have n:m.size<scanBound:=by rw[<-Array.length_toList,f.length_eq,Array.length_toList];exact i
  refine zQ00 (u _ _ _ (zQ00 (wpAny_storeSet_of q1 rfl (zQ02 ?_) (fits_of_scanBound n))));exact h _ (sb.trans (Heap.SameBut.update _ a _)) ⟨_,_,_,put m v q1,o.perm f,(f.map _).trans p,n,j,k⟩
 ·exact zQ02 (h _ sb ⟨_,_,_,q1,o,p,i,r,q⟩)
theorem B4{k:Int}{tk:Tok}{Q:Bool->Shared->Prop}(hS:SetI prog w s.heap a ks)(F:ks.length+1<scanBound)(h:∀h' b,Heap.SameBut a s.heap h'->SetI prog w h' a (if k∈ks then ks else k::ks)->Q b {s with heap:=h'}):wpAny (model prog w) A (setAddHashed a (.int k tk) ((intKind prog w).hash k)) Q E s:=by
 obtain⟨es,ep,t,ho,f,l,hb,n,ht⟩:=hS;have x:(intKind prog w).is k (.int k tk)=true:=intKind_is _ _ _ _;have r:(Value.int k tk).scannable=true:=rfl;have G:es.size=ks.length:=by rw[<-Af,l.length_eq]
 have mem:(∃e∈es.toList,(intKind prog w).is k e.2=true)↔k∈ks:=(DA f k).trans l.mem_iff;unfold setAddHashed setAddHashedIn;refine eh (zQ00 (wpAny_setState_of ho rfl n ?_));dsimp only;rw[byScan_of r hb f];simp only[↓reduceIte];unfold setAddByScan;refine zQ00 (zQ00 (wpAny_rule (zQ00 (wpAny_setScan_of x ho rfl n f ?_))));cases hr:List.findIdx? (λe=>(intKind prog w).is k e.2) es.toList with
  |some j=>obtain⟨hj,C,_⟩:=List.findIdx?_eq_some_iff_getElem.mp hr;have p:k∈ks:=mem.mp ⟨es.toList[j],List.getElem_mem hj,C⟩;rw[if_pos p]at h;exact zQ02 (zQ02 (h s.heap _ (Heap.SameBut.refl a s.heap) ⟨es,ep,t,ho,f,l,hb,n,ht⟩))
  |none=>
   have p:¬k∈ks:=λz=>by obtain⟨e,he,B⟩:=mem.mpr z;have :=List.findIdx?_eq_none_iff.mp hr e he;rw[B]at this;exact Bool.noConfusion this
   rw[if_neg p]at h;have o:∀(b:Bool)(s₁:Shared)(c:Unit->Shared->Prop),c () s₁->wpAny (model prog w) A (match b with|true=>rule "set.scan.the-table-gave-way"|false=>pure ()) c E s₁:=λb s₁ c hq=>by cases b<;>first|exact zQ02 hq|exact wpAny_rule hq
   have d:=layNew_perm t es ((intKind prog w).hash k) (.int k tk);have g:=layNew_fits t es ((intKind prog w).hash k) (.int k tk);have i:=ht.lay es ((intKind prog w).hash k) (.int k tk);dsimp only;generalize layNew t es ((intKind prog w).hash k) (.int k tk)=Z at d g i⊢;obtain⟨m,t1,H,D⟩:=Z;dsimp only at d g i⊢;rw[Array.toList_push]at d;have v:ElemsOf (intKind prog w) m.toList:=(f.push x r).perm d;have y:(keysOf m).Perm (k::ks):=by refine(d.map _).trans ?_;rw[List.map_append];exact List.perm_append_comm.trans (List.Perm.cons _ l)
   have u:m.size<scanBound:=by rw[<-Array.length_toList,d.length_eq,fK,Array.length_toList];simp;omega
   refine zQ00 (o _ _ _ ?_);split
   ·refine zQ00 ?_;rw[hashByValue_scannable 8 r];refine zQ02 (nO (λb s₁ c hq=>o b s₁ c hq) ho v y u ?_ ?_ λh' q hS'=>zQ02 (h h' _ q hS'))
    ·split;·exact g
     ·exact SetTable.fits_plain_off g
    ·split;·exact i
     ·exact i.plain
   ·refine zQ00 (zQ02 ?_);exact nO (λb s₁ c hq=>o b s₁ c hq) ho v y u g i λh' q hS'=>zQ02 (h h' _ q hS')
theorem w_updLoop{I:Addr}{fp g:List Addr}{G:Array GenState->Array GenState->Prop}{n:Nat}{P:Nat->Value->Prop}{St:Nat->Shared->Prop}{R:Result->Shared->Prop}(W:WalksS prog w A.in1 I fp g G n P St)(S:Addr)(hSf:S∉fp)(ns:List Int)(T:ns.length=n)(hval:∀i v,P i v->∃k t,ns[i]?=some k/\v= .int k t)(hb:∀ks:List Int,ks.Nodup->(∀z,z∈ks->z∈ns)->ks.length+1<scanBound):∀(k i:Nat)(s:Shared)(ks:List Int),n-i=k->i<=n->St i s->SetI prog w s.heap S ks->ks.Nodup->(∀z,z∈ks↔z∈ns.take i)->ks.length<=i->(∀s' ks',Moved (S::g) G s s'->SetI prog w s'.heap S ks'->ks'.Nodup->(∀z,z∈ks'↔z∈ns)->R (.ok (.ret .none)) s')->codeAny (model prog w) A (.builtin "set.update.loop" ⟨[.ref S, .ref I],[]⟩) R s:=by
 have p:S∉g:=λh=>hSf (W.sub _ h);have hsub:∀b∈g,b∈S::g:=λb hb=>c_ _ hb;intro k;induction k with
  |zero=>
   intro i s ks J hi l hS d hm K j;have H:i=n:=by omega
   subst H;refine codeAny_builtin PyProof.Rows.F.entry_set_update_loop ?_;rw[Around.under_plainId PyProof.Rows.F.plain_set_update_loop _];refine zQ00 (m:=pyNext (.ref I)) (W.done s _ _ l λs' c=>?_);rw[List.take_of_length_le (by omega)]at hm;exact zQ02 (j s' ks (c.mono hsub) (hS.keep λo e=>c.heap S o p e) d hm)
  |succ k O=>
   intro i s ks J hi l hS d hm K j;have hlt:i<n:=by omega
   refine codeAny_builtin PyProof.Rows.F.entry_set_update_loop ?_;rw[Around.under_plainId PyProof.Rows.F.plain_set_update_loop _];refine zQ00 (m:=pyNext (.ref I)) (W.item i s _ _ hlt l λv s' B N c=>?_);obtain⟨z,t,x,rfl⟩:=hval i v B;have hS':=hS.keep λo e=>c.heap S o p e;refine zQ00 (m:=holding [Value.int z t] (setAdd S (.int z t))) (eh ?_);unfold setAdd;refine eh (zQ00 ((intKind prog w).pyHash (k:=z) (intKind_is _ _ _ _) ?_));refine B4 (s:={s' with toks:=s'.toks+1}) hS' (hb ks d λz f=>List.mem_of_mem_take ((hm z).mp f)) λh' b r D=>?_;have u:ns.take (i+1)=ns.take i++[z]:=by rw[List.take_succ,x];rfl
   refine zQ02 ⟨plainId_quiet PyProof.Rows.F.plain_set_update_loop _,O (i+1) _ _ (by omega) hlt (W.frame _ s' _ _ N (Nat.le_succ _) λb hb o e=>?_) D ?_ ?_ ?_ λQ ks' L C M F=>?_⟩;·rw[r.2 b (λh:b=S=>hSf (by rw[<-h];exact hb))];exact e
   ·split;·exact d
    ·rename_i f;exact List.nodup_cons.mpr ⟨f,d⟩
   ·intro y;rw[u,List.mem_append,List.mem_singleton,<-hm y];split;·rename_i f;exact⟨.inl,λq=>q.elim id λe=>e▸f⟩
    ·rw[List.mem_cons];exact⟨λq=>q.elim .inr .inl,λq=>q.elim .inr .inl⟩
   ·split;·omega
    ·rw[gH];omega
   ·refine j Q ks' (Moved.trans W.gtrans ((c.mono hsub).then_heap (Nat.le_succ _) λb o hb e=>?_) L) C M F;rw[r.2 b (λh:b=S=>hb (by rw[h];exact cY))];exact e
end
section
variable{prog:Program}{w:World}{A:Around}{E:Value->Shared->Prop}{s:Shared}
theorem c_setNew(a:Value){Q₁:Value->Shared->Prop}(h:Q₁ (.ref s.heap.objs.size) {s with heap:=s.heap.push (sobj #[] 0 (.fresh 0 0 (ledW w)))}):codeAny (model prog w) A (.call (.builtin "set.__new__") ⟨[.type "set",a],[]⟩) (wants Q₁ E) s:=by refine codeAny_of_tree ?_;refine zQ00 (m:=checkBuiltinCall "set.__new__" ⟨[.type "set",a],[]⟩) (wpAny_of_eq (PySem.F.newCall_set_1 a) (zQ02 ⟨plainId_quiet PySem.F.plain_set_new _,codeAny_builtin PySem.F.entry_set_new ?_⟩));rw[Around.under_plainId PySem.F.plain_set_new _];unfold Builtin.«set.__new__» Builtin.Frozenset.newClass;have hsub:=sub_set_self;obtain⟨b,g,d,tk,os⟩:=s;dsimp only;wp_walk;refine wpAny_askSetting (zQ02 ?_);dsimp only;simp only[newObj];exact zQ00 (wpAny_alloc (zQ02 (zQ02 h)))
set_option maxHeartbeats 3200000 in
theorem w_setOf {l : Addr} {items : Array Value} {ns : List Int} {Q : Value → Shared → Prop} (hh : A.handled = none) (hl : s.heap.IsList l items) (hi : IntsAre items.toList ns) (hb : ∀ ks : List Int, ks.Nodup → (∀ z, z ∈ ks → z ∈ ns) → ks.length + 1 < scanBound)
    (h : ∀ (h' : Heap) (tk : Nat) (ks : List Int), SetI prog w h' s.heap.objs.size ks → ks.Nodup → (∀ z, z ∈ ks ↔ z ∈ ns) → (∀ b o, b < s.heap.objs.size → s.heap.get? b = some o → h'.get? b = some o) → Q (.ref s.heap.objs.size) { s with heap := h', toks := tk }) :
    wpAny (model prog w) A (call (.type "set") [.ref l]) Q E s := by
  obtain ⟨c, tl, hmro⟩ := PySem.F.called_set.mro
  have hmade := PySem.F.called_set.made
  have hsub := PySem.F.called_set.sub
  refine wpAny_call (codeAny_of_tree (zQ02 ⟨Code.quiet_builtin _ (by decide +kernel), codeAny_builtin F.entry_type_call ?_⟩))
  rw [Around.under_plain (weight_type_call_type "set" [.ref l] []) rfl]
  have h1 := PySem.F.called_set.notType
  have h2 := PySem.F.called_set.canCreate
  have hct := PySem.F.typeCall_set_1 (.ref l)
  repeat (any_goals (first | assumption | wp_step))
  refine codeAny_mono (c_setNew (.ref l) (E := E) (Q₁ := fun obj s₁ => obj = .ref s.heap.objs.size ∧ s₁ = { s with heap := s.heap.push (sobj #[] 0 (.fresh 0 0 (ledW w))) }) ⟨rfl, rfl⟩) fun r s₁ hr => ?_
  cases r with
  | error e => exact hr
  | ok fl =>
    cases fl with
    | ret obj =>
      obtain ⟨rfl, rfl⟩ := hr
      have hS : (s.heap.push (sobj #[] 0 (.fresh 0 0 (ledW w)))).get? s.heap.objs.size = some (sobj #[] 0 (.fresh 0 0 (ledW w))) := zQ06 _ rfl
      have hT : Shared.TypeIs { s with heap := s.heap.push (sobj #[] 0 (.fresh 0 0 (ledW w))) } (.ref s.heap.objs.size) "set" := ⟨_, hS, rfl⟩
      have hli := PySem.F.called_set.init.lookup
      have hbi := PySem.F.called_set.init.bind (.ref s.heap.objs.size)
      repeat (any_goals (first | assumption | wp_step))
      refine codeAny_mono (codeAny_call_builtin (R := wants (fun r s₂ => r = .none ∧ ∃ h' tk ks, s₂ = { s with heap := h', toks := tk } ∧ SetI prog w h' s.heap.objs.size ks ∧ ks.Nodup ∧ (∀ z, z ∈ ks ↔ z ∈ ns) ∧
          (∀ b o, b < s.heap.objs.size → s.heap.get? b = some o → h'.get? b = some o)) E) PySem.F.called_set.init.plain F.entry_set_init (check_set_init_1 hT ?_)) fun r₂ s₂ hr₂ => ?_
      · obtain ⟨ol, hol, hcl, nl, hdl⟩ := hl
        obtain ⟨ocls, odict, odata, oslots⟩ := ol
        simp only at hcl hdl
        subst hcl; subst hdl
        have hol' : (s.heap.push (sobj #[] 0 (.fresh 0 0 (ledW w)))).get? l = some { cls := .type "list", dict := odict, data := .seq items nl, slots := oslots } := zQ01 _ hol
        have hsls := PySem.F.sub_list_set
        have hslf := PySem.F.sub_list_frozenset
        have hne : (Value.type "list" == Value.type "dict") = false := by decide
        have hl1 : (s.heap.push (sobj #[] 0 (.fresh 0 0 (ledW w)))).IsList l items := ⟨_, hol', rfl, nl, rfl⟩
        unfold Builtin.«set.__init__» noKeywords Builtin.Frozenset.updateFrom
        generalize hPI : pyIter = PI
        wp_walk
        subst hPI
        refine wpAny_pyIter_list hl1 (zQ00 (wpAny_runValue ?_))
        have hlS : l < s.heap.objs.size := zQ05 hol
        have hh3 : A.in1.in1.in1.handled = none := by simp [hh]
        have hneI : l ≠ (s.heap.push (sobj #[] 0 (.fresh 0 0 (ledW w)))).objs.size := by rw [zQ21]; exact zQ18 (Nat.lt_succ_of_lt hlS)
        have hSf : s.heap.objs.size ∉ [(s.heap.push (sobj #[] 0 (.fresh 0 0 (ledW w)))).objs.size, l] := by
          rw [zQ21]; simp only [List.mem_cons, List.not_mem_nil, or_false, not_or]; exact ⟨zQ18 (Nat.lt_succ_self _), Nat.ne_of_gt hlS⟩
        have hlen : ns.length = items.size := by rw [← IntsAre.length hi, Array.length_toList]
        have hval : ∀ (i : Nat) (v : Value), items[i]? = some v → ∃ k t, ns[i]? = some k ∧ v = .int k t := fun i v hv => by
          obtain ⟨t, e⟩ := IntsAre.int_at hi i v (by rw [Array.getElem?_toList]; exact hv)
          have hlt := (Array.getElem?_eq_some_iff.mp hv).1
          refine ⟨_, t, ?_, e⟩
          rw [List.getD_eq_getElem?_getD, zQ03 (by omega)]; rfl
        refine w_updLoop ((Walks.list hh3 _ l hneI items).toS) s.heap.objs.size hSf ns hlen hval hb (items.size - 0) 0 _ [] (by omega) (zQ11 _)
          ⟨⟨_, zQ06 _ rfl, rfl, rfl⟩, (hl1.push _)⟩ ?_ List.nodup_nil (fun z => by simp) (zQ04 _) ?_
        · refine ⟨#[], 0, _, zQ01 _ hS, fun e he => by simp at he, List.Perm.refl _, by decide, rfl, Tbl.fresh _⟩
        · intro s' ks' hm hS' hn' he'
          obtain ⟨h', g', d', tk', os'⟩ := s'
          have eg : g' = s.gens := hm.gens
          have ed : d' = s.drawn := hm.drawn
          have eo : os' = s.os := hm.os
          subst eg ed eo
          refine zQ02 (zQ02 ⟨rfl, h', tk', ks', rfl, hS', hn', he', fun b o hb e => ?_⟩)
          refine hm.heap b o (fun z => ?_) (zQ01 _ (zQ01 _ e))
          rw [zQ21] at z
          rcases List.mem_cons.mp z with z | z
          · exact zQ18 hb z
          · exact zQ18 (Nat.lt_succ_of_lt hb) (List.mem_singleton.mp z)
      · cases r₂ with
        | error e => exact hr₂
        | ok fl₂ =>
          cases fl₂ with
          | ret r =>
            obtain ⟨rfl, h', tk, ks, rfl, q1, q2, q3, q4⟩ := hr₂
            repeat (any_goals (first | assumption | wp_step))
            exact h _ _ _ q1 q2 q3 q4
          | _ => exact hr₂.elim
    | _ => exact hr.elim
end
theorem Fb:Slot "set" "__iter__" "set.__iter__":=PySem.F.slot_set_iter
theorem ME:entryFor table "set.__iter__"=some Builtin.«frozenset.__iter__»:=entryFor_alias (id':="frozenset.__iter__") (by kernel_rfl) (by decide+kernel) (by decide+kernel) (by kernel_rfl)
theorem oq:Slot "set_iterator" "__next__" "set_iterator.__next__":= .of (owner:="set_iterator") (n:="__next__") (by rw[typeLookup_type,builtinLookup_eq_fast];kernel_rfl) (by decide+kernel) (by decide+kernel) (by decide+kernel) (by first|exact .inl (by decide+kernel)|exact .inr (by decide+kernel)) (by rw[isSubtype_type];kernel_rfl)
theorem E2:entryFor table "set_iterator.__next__"=some Builtin.«set_iterator.__next__»:=entryFor_of_fast (by kernel_rfl)
theorem FZ(a:Value):argsOk "set_iterator.__next__" ⟨[a],[]⟩:=by unfold argsOk;kernel_rfl
theorem Ga:Slot "set_iterator" "__iter__" "set_iterator.__iter__":= .of (owner:="set_iterator") (n:="__iter__") (by rw[typeLookup_type,builtinLookup_eq_fast];kernel_rfl) (by decide+kernel) (by decide+kernel) (by decide+kernel) (by first|exact .inl (by decide+kernel)|exact .inr (by decide+kernel)) (by rw[isSubtype_type];kernel_rfl)
theorem Mr:entryFor table "set_iterator.__iter__"=some Builtin.«dict_keyiterator.__iter__»:=entryFor_alias (id':="dict_keyiterator.__iter__") (by kernel_rfl) rfl (by decide+kernel) (by kernel_rfl)
theorem L_(a:Value):argsOk "set_iterator.__iter__" ⟨[a],[]⟩:=by unfold argsOk;kernel_rfl
theorem oK{a:Type}:∀{l:List a}{i:Nat}(h:i<l.length),(l[i]::l.eraseIdx i).Perm l|x::l,0,_=>List.Perm.refl _|x::l,i+1,h=>(List.Perm.swap _ _ _).trans (List.Perm.cons _ (oK (Nat.lt_of_succ_lt_succ h)))
theorem yh{a:Type}(next:Nat->Nat):∀(n k:Nat)(left:List a)(out:Array a),left.length=n->(pickOrder.go next n k left out).toList.Perm (out.toList++left)|0,k,left,out,e=>by have :left=[]:=List.length_eq_zero_iff.mp e;subst this;unfold pickOrder.go;simp|n+1,k,left,out,e=>by unfold pickOrder.go;have hl:next k%left.length<left.length:=Nat.mod_lt _ (by omega);rw[zQ03 hl];dsimp only;refine(yh next n (k+1) _ _ (by rw[List.length_eraseIdx_of_lt hl];omega)).trans ?_;rw[Array.toList_push,List.append_assoc];exact List.Perm.append_left _ (oK hl)
theorem og{a:Type}(next:Nat->Nat)(xs:Array a):(pickOrder next xs).toList.Perm xs.toList:=by unfold pickOrder;exact(yh next _ 0 xs.toList #[] (by simp)).trans (by simp)
section
variable{prog:Program}{w:World}{A:Around}{E:Value->Shared->Prop}{s:Shared}
theorem BN{src:Source}{n:Nat}{Q:Nat->Shared->Prop}(hn:n≠0)(h:∀i d,i<n->Q i {s with drawn:=d}):wpAny (model prog w) A (choose src n) Q E s:=λ_ _ _=>⟨hn,h _ _ (Nat.mod_lt _ (Nat.pos_of_ne_zero hn))⟩
theorem BK{b:Type}:∀(n:Nat)(xs:List b)(s:Shared)(Q:List b->Shared->Prop),xs.length=n->(∀a d,a.Perm xs->Q a {s with drawn:=d})->wpAny (model prog w) A (drawOrder n xs) Q E s|0,xs,s,Q,e,h=>by have :xs=[]:=List.length_eq_zero_iff.mp e;subst this;unfold drawOrder;exact zQ02 (h [] s.drawn (List.Perm.refl _))|n+1,[],s,Q,e,h=>by simp at e|n+1,x::xs,s,Q,e,h=>by unfold drawOrder;refine zQ00 (BN (by simp) λi d hi=>?_);rw[zQ03 hi];dsimp only;refine zQ00 (BK n _ _ _ (by rw[List.length_eraseIdx_of_lt hi];simp at e⊢;omega) λa d' c=>zQ02 (h _ d' ?_));exact(List.Perm.cons _ c).trans (oK hi)
theorem bR{a:Type}{M:Model}{c:Prop}[Decidable c]{m n:Sem a}{Q:a->Shared->Prop}(h1:c->wpAny M A m Q E s)(h2:¬c->wpAny M A n Q E s):wpAny M A (if c then m else n) Q E s:=by
 by_cases hc:c;·rw[if_pos hc];exact h1 hc
 ·rw[if_neg hc];exact h2 hc
noncomputable abbrev kZ(first:Value)(i:Nat)(S:Addr)(n ep:Nat):Obj:={cls:= .type "set_iterator",data:= .fields #[first, .int i 0, .ref S, .int n 0, .int ep 0]}
inductive Md(w:World)(es:Array (Int×Value))(ep:Nat)(t:SetTable)(S:Addr)(ord:List Value):Nat->Value->Heap->Prop|txt{i:Nat}{h:Heap}(hb:w.params.followText "set-order"=true)(ho:ord=(pickOrder (w.params.setOrder S ep) es).toList.map (·.2)):Md w es ep t S ord i (.int (0:Nat) 0) h|led{i j:Nat}{h:Heap}(hb:w.params.followText "set-order"=false)(hd:(!t.plain&&decide (es.size>1))=false)(ho:ord=es.toList.map (·.2))(hj:SetTable.below t.place j=i):Md w es ep t S ord i (.int (j:Nat) 0) h|JJ{i:Nat}{h:Heap}{T:Addr}{os:List Nat}(ht:h.get? T=some {cls:= .type "tuple",data:= .seq (os.map λ(k:Nat)=>Value.int k 0).toArray})(hl:ord.length=os.length)(ho:∀(i k:Nat),os[i]?=some k->∃e:Int×Value,es[k]?=some e/\ord[i]?=some e.2):Md w es ep t S ord i (.ref T) h
end
section
variable{prog:Program}{w:World}{A:Around}{E:Value->Shared->Prop}{s:Shared}
noncomputable def Q_(w:World)(es:Array (Int×Value))(ep:Nat)(t:SetTable)(S I:Addr)(ord:List Value)(i:Nat)(s:Shared):Prop:=s.heap.get? S=some (sobj es ep t)/\∃first,s.heap.get? I=some (kZ first i S es.size ep)/\Md w es ep t S ord i first s.heap
theorem DY{es:Array (Int×Value)}{ep:Nat}{t:SetTable}{S:Addr}{ord:List Value}{i:Nat}{first:Value}{h h':Heap}{fp:List Addr}(m:Md w es ep t S ord i first h)(hT:∀T,first= .ref T->T∈fp)(k:∀b∈fp,∀o,h.get? b=some o->h'.get? b=some o):Md w es ep t S ord i first h':=by cases m with|txt hb ho=>exact .txt hb ho|led hb hd ho hj=>exact .led hb hd ho hj|JJ ht hl ho=>exact .JJ (k _ (hT _ rfl) _ ht) hl ho
theorem Bs{d:Type}{f:d->Shared->Prop}{c:Value->Shared->Prop}(hh:A.handled=none)(h:∀h' e o,h'.get? e=some o->o.cls= .type "StopIteration"->(∀b o,s.heap.get? b=some o->h'.get? b=some o)->c (.ref e) {s with heap:=h'}):wpAny (model prog w) A (newExc (.type "StopIteration") []>>=raiseNew:Sem d) f c s:=by refine zQ00 ?_;simp only[newExc,newTuple];refine zQ00 (gL ?_ (by size_fits));refine zQ00 (m:=firstArgMember _ _) (wpAny_of_eq (a:=Value.none) (by first|rfl|(simp only[firstArgMember];rfl)) ?_);refine gL ?_ (by size_fits);simp only[raiseNew];refine zQ00 (wpAny_handled ?_);rw[hh];refine zQ00 (zQ02 (wpAny_throw ?_));exact h _ _ _ (zQ06 _ rfl) rfl λb o e=>zQ01 _ (zQ01 _ e)
theorem vp{xs:Array Nat}(hr:yx xs){i j:Nat}(e:xs[i]?=some j):SetTable.below xs (j+1)=i+1:=by
 obtain⟨hi,f⟩:=Array.getElem?_eq_some_iff.mp e;obtain⟨c,a,b⟩:=l6 hr (j+1);have d:xs.getD i 0=j:=by rw[Array.getD_eq_getD_getElem?,e];rfl
 have h1:i<SetTable.below xs (j+1):=by
  rcases Nat.lt_or_ge i (SetTable.below xs (j+1))with z|z;·exact z
  ·have :=b i z hi;omega
 rcases Nat.lt_or_ge (i+1) (SetTable.below xs (j+1))with z|z;·have q1:=a (i+1) z;have q2:=hr.lt (i:=i) (j:=i+1) (by omega) (by omega);omega
 ·omega
theorem yK(hh:A.handled=none){es:Array (Int×Value)}{ep:Nat}{t:SetTable}{S I:Addr}{ord:List Value}{C:List Addr}(g:t.fits es.size=true)(ht:Tbl (ledW w) t)(hlen:ord.length=es.size)(hne:S≠I)(W:I∉C):WalksS prog w A I (I::S::C) [I] (λa b=>b=a) es.size (λi v=>ord[i]?=some v) (λi s=>Q_ w es ep t S I ord i s/\∀first T,(s.heap.get? I).map (·.data)=some (.fields #[first, .int i 0, .ref S, .int es.size 0, .int ep 0])->first= .ref T->T∈C)where
 sub:=λb hb=>by rw[List.mem_singleton]at hb;subst hb;exact cY
 grefl:=λ_=>rfl;gtrans:=λ_ _ _ h1 h2=>h2.trans h1;frame:=λi s h' tk st _ n=>by obtain⟨⟨hS,first,c,hm⟩,hT⟩:=st;have N:=n I cY _ c;refine⟨⟨n S (by simp) _ hS,first,N,DY hm (fp:=I::S::C) (λT e=>by simp[hT first T (by rw[c];rfl) e]) n⟩,λf T p F=>?_⟩;rw[N]at p;exact hT f T (by rw[c];exact p) F
 item:=λi s Q E hi st u=>by
  obtain⟨⟨hS,first,c,hm⟩,hT⟩:=st;have l:s.TypeIs (.ref I) "set_iterator":=⟨_,c,rfl⟩;have Y:t.place.size=es.size:=by simp only[SetTable.fits,cw,beq_iff_eq]at g;exact g.1
  unfold pyNext;refine zQ00 (wpAny_attempt (wpAny_callSpecial?_slot (name:=Str.ofString "__next__") l oq (fF oq l E2 ?_ (FZ _))));refine zQ00 (m:=fieldsOf (.ref I)) (wpAny_fieldsOf c rfl ?_);refine zQ00 (wpAny_setEntries_of hS rfl g ?_);refine bR (λz=>absurd z (by simp)) λ_=>?_;have put2:∀(j:Nat)(x:Value)(B:_->Shared->Prop)(M:Value->Shared->Prop),ord[i]?=some x->Md w es ep t S ord (i+1) (.int j 0) s.heap->(∀s',Q_ w es ep t S I ord (i+1) s'->(∀first T,(s'.heap.get? I).map (·.data)=some (.fields #[first, .int ((i+1:Nat):Int) 0, .ref S, .int es.size 0, .int ep 0])->first= .ref T->T∈C)->Moved [I] (λa b=>b=a) s s'->B (.done (.ret x)) s')->wpAny (model prog w) A.in1 (do setField (.ref I) 0 (rawInt j);setField (.ref I) 1 (rawInt ((i:Int)+1));ret x) B M s:=by
   intro j x B M hx X k;refine zQ00 (m7 c (by simp) λh1 G y=>zQ00 (m7 G (by simp) λh2 V Tf=>zQ02 ?_));have H:h2.get? I=some (kZ (.int j 0) (i+1) S es.size ep):=by rw[V];simp[kZ,rawInt]
   have D:∀b o,b≠I->s.heap.get? b=some o->h2.get? b=some o:=λb o hb e=>by rw[Tf.2 b hb,y.2 b hb];exact e
   refine k {s with heap:=h2} ⟨D S _ hne hS,_,H,?_⟩ (λf T p F=>?_) ⟨λb o hb e=>D b o (λz=>hb (by rw[z];exact List.mem_singleton.mpr rfl)) e,rfl,rfl,rfl,zQ04 _⟩;·cases X with|txt hb ho=>exact .txt hb ho|led hb hd ho hj=>exact .led hb hd ho hj
   ·rw[H]at p;have :=congrArg (λd=>match d with|some (Data.fields vs)=>vs[0]?|_=>none) p;simp at this;rw[F]at this;cases this
  obtain⟨v,hv⟩:∃v,ord[i]?=some v:=⟨_,zQ03 (by omega)⟩;cases hm with
   |txt hb ho=>
    refine zQ00 ?_;unfold setNext;refine zQ00 (wpAny_setState_of hS rfl g (zQ00 (zQ00 (wpAny_askSetting (zQ02 ?_)))));refine bR (λ_=>?_) λz=>absurd hb z;refine bR (λz=>absurd z (by simp)) λ_=>?_;refine zQ00 ?_;unfold setWalk;refine zQ00 (wpAny_setState_of hS rfl g (zQ00 (zQ00 (wpAny_askSetting (zQ02 ?_)))));refine bR (λ_=>zQ00 (wpAny_askSetting (zQ02 ?_))) λz=>absurd hb z;have h:((pickOrder (w.params.setOrder S ep) es)[i]?).map (λe=>(e.2,(0:Nat)))=some (v,0):=by rw[ho,fU,Array.getElem?_toList]at hv;cases q:(pickOrder (w.params.setOrder S ep) es)[i]? with|none=>rw[q]at hv;cases hv|some e=>rw[q]at hv;cases hv;rfl
    refine zQ02 ?_;show wpAny (model prog w) A.in1 (match Option.map (λe=>(e.2,(0:Nat))) (pickOrder (w.params.setOrder S ep) es)[i]? with|some (x,next)=>_|none=>_) _ _ s;rw[h];exact put2 0 v _ _ hv (.txt hb ho) λs' aG r L=>⟨v,rfl,zQ02 (u v s' hv ⟨aG,r⟩ L)⟩
   |led hb hd ho hj=>
    rename_i j;refine zQ00 ?_;unfold setNext;refine zQ00 (wpAny_setState_of hS rfl g (zQ00 (zQ00 (wpAny_askSetting (zQ02 ?_)))));refine bR (λz=>absurd (hb.symm.trans z) (by decide)) λ_=>?_;refine bR (λz=>absurd (hd.symm.trans z) (by decide)) λ_=>?_;have K:t.led=true:=by rw[ht.led,ledW,hb];rfl
    refine zQ00 (bR (λz=>absurd z (by rw[K];simp)) λ_=>zQ02 ?_);refine zQ02 ?_;obtain⟨k,n⟩:∃k,t.place[i]?=some k:=⟨_,getElem?_pos _ i (by omega)⟩;have he:∃J,es[i]?=some (J,v):=by rw[ho,fU,Array.getElem?_toList]at hv;cases q:es[i]? with|none=>rw[q]at hv;cases hv|some e=>rw[q]at hv;cases hv;exact⟨e.1,rfl⟩
    obtain⟨J,he⟩:=he;have h:(match es[SetTable.below t.place j]?,t.place[SetTable.below t.place j]? with|some (_,x),some j=>some (x,j+1)|_,_=>none)=some (v,k+1):=by rw[hj,he,n]
    show wpAny (model prog w) A.in1 (match(match es[SetTable.below t.place j]?,t.place[SetTable.below t.place j]? with|some (_,x),some j=>some (x,j+1)|_,_=>none)with|some (x,next)=>_|none=>_) _ _ s;rw[h];exact put2 (k+1) v _ _ hv (.led hb hd ho (vp ht.N6 n)) λs' aG r L=>⟨v,rfl,zQ02 (u v s' hv ⟨aG,r⟩ L)⟩
   |JJ r hl ho=>
    rename_i T os;obtain⟨k,n⟩:∃k,os[i]?=some k:=⟨_,zQ03 (by omega)⟩;obtain⟨e,he,R⟩:=ho i k n;rw[R]at hv;refine zQ00 (jL r rfl ?_);have h:(os.map λ(k:Nat)=>Value.int k 0).toArray[i]?=some (.int k 0):=by rw[List.getElem?_toArray,fU,n];rfl
    show wpAny (model prog w) A.in1 (match(os.map λ(k:Nat)=>Value.int k 0).toArray[i]? with|some (.int place _)=>_|some _=>_|none=>_) _ _ s;rw[h];refine zQ00 ?_;unfold setNextDrawn;refine zQ00 (wpAny_setState_of hS rfl g ?_);refine bR (λz=>absurd z (by simp)) λ_=>?_;show wpAny (model prog w) A.in1 (match es[k]? with|some (_,x)=>_|_=>_) _ _ s;rw[he];refine zQ02 ?_;refine zQ00 (m7 c (by simp) λh1 G y=>zQ02 ⟨_,rfl,zQ02 ?_⟩);have H:h1.get? I=some (kZ (.ref T) (i+1) S es.size ep):=by rw[G];simp[kZ,rawInt]
    have D:∀b o,b≠I->s.heap.get? b=some o->h1.get? b=some o:=λb o hb e=>by rw[y.2 b hb];exact e
    have O:T∈C:=hT _ T (by rw[c];rfl) rfl;refine u _ _ R ⟨⟨D S _ hne hS,_,H, .JJ (D T _ (λz=>W (z▸O)) r) hl ho⟩,λf T' p F=>?_⟩ ⟨λb o hb e=>D b o (λz=>hb (by rw[z];exact List.mem_singleton.mpr rfl)) e,rfl,rfl,rfl,zQ04 _⟩;rw[H]at p;have :=congrArg (λd=>match d with|some (Data.fields vs)=>vs[0]?|_=>none) p;simp at this;rw[F]at this;cases this;exact O
 done:=λs Q E st u=>by
  obtain⟨⟨hS,first,c,hm⟩,hT⟩:=st;have l:s.TypeIs (.ref I) "set_iterator":=⟨_,c,rfl⟩;have Y:t.place.size=es.size:=by simp only[SetTable.fits,cw,beq_iff_eq]at g;exact g.1
  unfold pyNext;refine zQ00 (wpAny_attempt (wpAny_callSpecial?_slot (name:=Str.ofString "__next__") l oq (fF oq l E2 ?_ (FZ _))));refine zQ00 (m:=fieldsOf (.ref I)) (wpAny_fieldsOf c rfl ?_);refine zQ00 (wpAny_setEntries_of hS rfl g ?_);refine bR (λz=>absurd z (by simp)) λ_=>?_;have P:A.in1.handled=none:=hh;have stop:∀(h':Heap)(e:Addr)(o:Obj),h'.get? e=some o->o.cls= .type "StopIteration"->(∀b o,b≠I->s.heap.get? b=some o->h'.get? b=some o)->wpAny (model prog w) A (do if<-isInstance (.ref e) (Value.type "StopIteration")then pure none else throw (Value.ref e)) Q E {s with heap:=h'}:=λh' e o he hc k=>zQ00 (wpAny_isInstance (T:="StopIteration") (b:=true) ⟨o,he,hc⟩ isSubtype_stop (zQ02 (u _ ⟨λb o hb e=>k b o (λz=>hb (by rw[z];exact List.mem_singleton.mpr rfl)) e,rfl,rfl,rfl,zQ04 _⟩)));have fin:∀B,wpAny (model prog w) A.in1 (do setField (.ref I) 2 Value.none;raiseNew (<-newExc (.type "StopIteration") []):Sem Fin) B (λe s'=>wpAny (model prog w) A (do if<-isInstance e (Value.type "StopIteration")then pure none else throw e) Q E s') s:=λB=>by refine zQ00 (m7 c (by simp) λh1 G y=>Bs P λh2 e o he hc k=>?_);exact stop h2 e o he hc λb o hb e=>k b o (by show h1.get? b=some o;rw[y.2 b hb];exact e)
  cases hm with
   |txt hb ho=>
    refine zQ00 ?_;unfold setNext;refine zQ00 (wpAny_setState_of hS rfl g (zQ00 (zQ00 (wpAny_askSetting (zQ02 ?_)))));refine bR (λ_=>?_) λz=>absurd hb z;refine bR (λz=>absurd z (by simp)) λ_=>?_;refine zQ00 ?_;unfold setWalk;refine zQ00 (wpAny_setState_of hS rfl g (zQ00 (zQ00 (wpAny_askSetting (zQ02 ?_)))));refine bR (λ_=>zQ00 (wpAny_askSetting (zQ02 ?_))) λz=>absurd hb z;have h:((pickOrder (w.params.setOrder S ep) es)[es.size]?).map (λe=>(e.2,(0:Nat)))=none:=by rw[Array.getElem?_eq_none (by rw[<-Array.length_toList,(og _ es).length_eq,Array.length_toList];exact zQ04 _)];rfl
    refine zQ02 ?_;show wpAny (model prog w) A.in1 (match Option.map (λe=>(e.2,(0:Nat))) (pickOrder (w.params.setOrder S ep) es)[es.size]? with|some (x,next)=>_|none=>_) _ _ s;rw[h];exact fin _
   |led hb hd ho hj=>
    rename_i j;refine zQ00 ?_;unfold setNext;refine zQ00 (wpAny_setState_of hS rfl g (zQ00 (zQ00 (wpAny_askSetting (zQ02 ?_)))));refine bR (λz=>absurd (hb.symm.trans z) (by decide)) λ_=>?_;refine bR (λz=>absurd (hd.symm.trans z) (by decide)) λ_=>?_;have K:t.led=true:=by rw[ht.led,ledW,hb];rfl
    refine zQ00 (bR (λz=>absurd z (by rw[K];simp)) λ_=>zQ02 ?_);refine zQ02 ?_;have h:(match es[SetTable.below t.place j]?,t.place[SetTable.below t.place j]? with|some (_,x),some j=>some (x,j+1)|_,_=>none)=none:=by rw[hj,Array.getElem?_eq_none (zQ04 _)]
    show wpAny (model prog w) A.in1 (match(match es[SetTable.below t.place j]?,t.place[SetTable.below t.place j]? with|some (_,x),some j=>some (x,j+1)|_,_=>none)with|some (x,next)=>_|none=>_) _ _ s;rw[h];exact fin _
   |JJ r hl ho=>
    rename_i T os;refine zQ00 (jL r rfl ?_);have h:(os.map λ(k:Nat)=>Value.int k 0).toArray[es.size]?=none:=by rw[List.getElem?_toArray,List.getElem?_eq_none (by rw[cT];omega)]
    show wpAny (model prog w) A.in1 (match(os.map λ(k:Nat)=>Value.int k 0).toArray[es.size]? with|some (.int place _)=>_|some _=>_|none=>_) _ _ s;rw[h];refine zQ00 (m7 c (by simp) λJ U Z=>zQ00 (m7 U (by simp) λh1 G y=>Bs P λh2 e o he hc k=>?_));exact stop h2 e o he hc λb o hb e=>k b o (by show h1.get? b=some o;rw[y.2 b hb,Z.2 b hb];exact e)
 self:=λi s Q E st u=>by obtain⟨⟨hS,first,c,hm⟩,hT⟩:=st;have l:s.TypeIs (.ref I) "set_iterator":=⟨_,c,rfl⟩;exact wpAny_pyIter_slot l Ga (fF Ga l Mr (zQ02 ⟨_,rfl,"set_iterator",_,l,oq.lookup,u⟩) (L_ _))
end
section
variable{prog:Program}{w:World}{A:Around}{E:Value->Shared->Prop}{s:Shared}
theorem vG{xs:Array Nat}(hr:yx xs):SetTable.below xs 0=0:=by
 obtain⟨b,a,c⟩:=l6 hr 0;rcases Nat.eq_zero_or_pos (SetTable.below xs 0)with z|z;·exact z
 ·have :=a 0 z;omega
theorem zh{S:Addr}{es:Array (Int×Value)}{ep:Nat}{t:SetTable}{Q:Value->Shared->Prop}(hS:s.heap.get? S=some (sobj es ep t))(y:t.fits es.size=true)(ht:Tbl (ledW w) t)(O:es.size<scanBound)(h:∀(h':Heap)(d:Drawn)(I:Addr)(u:List Addr)(ord:List Value),Q_ w es ep t S I ord 0 {s with heap:=h',drawn:=d}->(∀first T,(h'.get? I).map (·.data)=some (.fields #[first, .int (0:Nat) 0, .ref S, .int es.size 0, .int ep 0])->first= .ref T->T∈u)->ord.Perm (es.toList.map (·.2))->I∉u->s.heap.objs.size<=I->(∀b,b∈u->s.heap.objs.size<=b)->(∀b,b∈I::S::u->b<h'.objs.size)->(∀b o,s.heap.get? b=some o->h'.get? b=some o)->Q (.ref I) {s with heap:=h',drawn:=d}):wpAny (model prog w) A (pyIter (.ref S)) Q E s:=by
 have F:s.TypeIs (.ref S) "set":=⟨_,hS,rfl⟩;have hlt:S<s.heap.objs.size:=zQ05 hS;refine wpAny_pyIter_slot F Fb (fF Fb F ME ?_ (PySem.F.args_set_iter_1 _));refine zQ00 (m:=Builtin.Frozenset.slot0 "__iter__" ⟨[.ref S],[]⟩) (zQ02 ?_);refine zQ00 (zQ00 (wpAny_setEntries_of hS rfl y (zQ02 ?_)));refine zQ00 ?_;unfold setDrawn;refine zQ00 (wpAny_setState_of hS rfl y (zQ00 (zQ00 (wpAny_askSetting (zQ02 ?_)))));refine zQ02 ?_;have plain:∀(first:Value)(ord:List Value),first= .int (0:Nat) 0->Md w es ep t S ord 0 first s.heap->ord.Perm (es.toList.map (·.2))->∀B,(∀h' d I,Q (.ref I) {s with heap:=h',drawn:=d}->(∃o,h'.get? I=some o/\o.cls= .type "set_iterator")->B (.done (.ret (.ref I))) {s with heap:=h',drawn:=d})->wpAny (model prog w) A.in1 (do ret (<-newFields "set_iterator" [first,rawInt 0, .ref S,rawInt es.size,rawInt (<-setEpoch S)])) B E s:=by
  intro first ord p N j B k;subst p;refine zQ00 (wpAny_setEpoch_of hS rfl y (zQ00 (gL (zQ02 ?_))));have g:(s.heap.push (kZ (.int (0:Nat) 0) 0 S es.size ep)).get? s.heap.objs.size=some (kZ (.int (0:Nat) 0) 0 S es.size ep):=zQ06 _ rfl;refine k (s.heap.push (kZ (.int (0:Nat) 0) 0 S es.size ep)) s.drawn s.heap.objs.size (h _ _ _ [] ord ⟨zQ01 _ hS,_,g,?_⟩ (λf T a n=>?_) j (by simp) (zQ04 _) (λb hb=>by simp at hb) (λb hb=>?_) λb o e=>zQ01 _ e) ⟨_,g,rfl⟩;·cases N with|txt hb ho=>exact .txt hb ho|led hb hd ho hj=>exact .led hb hd ho hj
  ·rw[g]at a;have :=congrArg (λd=>match d with|some (Data.fields vs)=>vs[0]?|_=>none) a;simp at this;rw[n]at this;cases this
  ·rw[zQ21];rcases List.mem_cons.mp hb with z|z;·rw[z];exact Nat.lt_succ_self _
   ·rw[List.mem_singleton.mp z];exact Nat.lt_succ_of_lt hlt
 have fin:∀h' d I,Q (.ref I) {s with heap:=h',drawn:=d}->(∃o,h'.get? I=some o/\o.cls= .type "set_iterator")->∃v,PySem.Fin.done (.ret (.ref I))=PySem.Fin.done (.ret v)/\∃T r,Shared.TypeIs {s with heap:=h',drawn:=d} v T/\typeLookup (.type T) (Str.ofString "__next__")=pure (some r)/\Q v {s with heap:=h',drawn:=d}:=λh' d I q⟨o,a,n⟩=>⟨_,rfl,"set_iterator",_,⟨o,a,n⟩,oq.lookup,q⟩;cases hb:w.params.followText "set-order"with
  |true=>
   refine bR (λz=>?_) λ_=>?_;·exfalso;have :(!w.params.followText "set-order"&&(!t.plain&&decide (es.size>1)))=true:=z;rw[hb]at this;cases this
   ·refine zQ00 (zQ02 ?_);exact plain _ _ rfl (.txt hb rfl) ((og _ es).map _) _ λh' d I q o=>fin h' d I q o
  |false=>
   refine bR (λz=>?_) λz=>?_
   ·refine zQ00 (BK es.size (List.range es.size) _ _ (by simp) λos d j=>?_);refine zQ00 (m:=newTuple (os.map λ(i:Nat)=>rawInt i)) ?_;refine gL ?_ (by show(os.map λ(i:Nat)=>rawInt i).toArray.size<=_;rw[cG,cT,j.length_eq,mw];exact fits_of_scanBound O);have D:=zQ01 {cls:= .type "tuple",data:= .seq (os.map λ(i:Nat)=>rawInt i).toArray} hS;refine zQ00 (wpAny_setEpoch_of D rfl y (zQ00 (gL (zQ02 ?_))));have hol:os.length=es.size:=by rw[j.length_eq,mw]
    have H:∀i k,os[i]?=some k->k<es.size:=λi k e=>by obtain⟨l,K⟩:=List.getElem?_eq_some_iff.mp e;have :=j.mem_iff.mp (K▸List.getElem_mem l);exact List.mem_range.mp this
    obtain⟨ord,G⟩:∃ord,ord=os.filterMap (λk=>(es.toList.map (·.2))[k]?):=⟨_,rfl⟩;have p:(es.toList.map (·.2)).length=es.size:=by rw[cT,Array.length_toList]
    have J:ord.Perm (es.toList.map (·.2)):=by rw[G];refine(j.filterMap _).trans (List.Perm.of_eq ?_);rw[<-p];exact List.filterMap_getElem?_range_length _
    have M:∀(l:List Nat),(∀k,k∈l->k<es.size)->∀(i k:Nat),l[i]?=some k->(l.filterMap (λk=>(es.toList.map (·.2))[k]?))[i]?=(es.toList.map (·.2))[k]?:=by intro l;induction l with|nil=>intro _ i k e;simp at e|cons x l P=>intro hl i k e;have R:=hl x cY;rw[List.filterMap_cons,zQ03 (l:=es.toList.map (·.2)) (i:=x) (by omega)];cases i with|zero=>simp at e;subst e;rw[zQ03 (l:=es.toList.map (·.2)) (i:=x) (by omega)];rfl|succ i=>exact P (λk c=>hl k (c_ _ c)) i k (by simpa using e)
    have C:((s.heap.push {cls:= .type "tuple",data:= .seq (os.map λ(i:Nat)=>rawInt i).toArray}).push (kZ (.ref s.heap.objs.size) 0 S es.size ep)).get? (s.heap.push {cls:= .type "tuple",data:= .seq (os.map λ(i:Nat)=>rawInt i).toArray}).objs.size=some (kZ (.ref s.heap.objs.size) 0 S es.size ep):=zQ06 _ rfl;have L:((s.heap.push {cls:= .type "tuple",data:= .seq (os.map λ(i:Nat)=>rawInt i).toArray}).push (kZ (.ref s.heap.objs.size) 0 S es.size ep)).get? s.heap.objs.size=some {cls:= .type "tuple",data:= .seq (os.map λ(i:Nat)=>rawInt i).toArray}:=zQ01 _ (zQ06 _ rfl);refine fin _ d (s.heap.push {cls:= .type "tuple",data:= .seq (os.map λ(i:Nat)=>rawInt i).toArray}).objs.size (h ((s.heap.push {cls:= .type "tuple",data:= .seq (os.map λ(i:Nat)=>rawInt i).toArray}).push (kZ (.ref s.heap.objs.size) 0 S es.size ep)) d _ [s.heap.objs.size] ord ⟨zQ01 _ D,_,C, .JJ L ?_ ?_⟩ (λf T a n=>?_) J ?_ ?_ (λb hb=>by rw[List.mem_singleton.mp hb];exact zQ04 _) (λb hb=>?_) λb o e=>zQ01 _ (zQ01 _ e)) ⟨_,C,rfl⟩;·rw[J.length_eq,p,hol]
    ·intro i k e;have c:=H i k e;refine⟨es[k],getElem?_pos es k c,?_⟩;rw[G,M os (λk c=>by obtain⟨i,hi,e⟩:=qQ c;exact H i k (by rw[zQ03 hi,e])) i k e,fU,Array.getElem?_toList,getElem?_pos es k c];rfl
    ·rw[C]at a;have :=congrArg (λd=>match d with|some (Data.fields vs)=>vs[0]?|_=>none) a;simp at this;rw[n]at this;cases this;exact List.mem_singleton.mpr rfl
    ·rw[zQ21,List.mem_singleton];exact Nat.ne_of_gt (Nat.lt_succ_self _)
    ·rw[zQ21];exact Nat.le_succ _
    ·rw[zQ21,zQ21];rcases List.mem_cons.mp hb with z|z;·rw[z,zQ21];exact Nat.lt_succ_self _
     ·rcases List.mem_cons.mp z with z|z;·rw[z];exact Nat.lt_succ_of_lt (Nat.lt_succ_of_lt hlt)
      ·rw[List.mem_singleton.mp z];exact Nat.lt_succ_of_lt (Nat.lt_succ_self _)
   ·refine zQ00 (zQ02 ?_);have hd:(!t.plain&&decide (es.size>1))=false:=by have :¬(!w.params.followText "set-order"&&(!t.plain&&decide (es.size>1)))=true:=z;rw[hb]at this;simpa using this
    exact plain _ _ rfl (.led hb hd rfl (vG ht.N6)) (List.Perm.refl _) _ λh' d I q o=>fin h' d I q o
end
theorem DP:typeLookup (.type "set") "__len__"=pure (some (.builtin "set.__len__")):=by rw[typeLookup_type,builtinLookup_eq_fast];kernel_rfl
theorem Eo:splitId "set.__len__"=some ("set","__len__"):=by decide+kernel
section
variable{prog:Program}{w:World}{A:Around}{E:Value->Shared->Prop}{s:Shared}
theorem pj{S:Addr}{ks:List Int}{Q:List Value->Shared->Prop}(hh:A.handled=none)(hS:SetI prog w s.heap S ks)(h:∀h' d tk vs ns,IntsAre vs ns->ns.Perm ks->s.heap.objs.size<=h'.objs.size->(∀b o,s.heap.get? b=some o->h'.get? b=some o)->Q vs {s with heap:=h',drawn:=d,toks:=tk}):wpAny (model prog w) A (collect (.ref S)) Q E s:=by
 obtain⟨es,ep,t,r,R,V,G,y,ht⟩:=hS;have hlt:S<s.heap.objs.size:=zQ05 r;unfold collect;refine zQ00 (wpAny_runValue (codeAny_builtin F.entry_proto_collect ?_));rw[Around.under_plainId F.plain_proto_collect _];refine zQ00 (m:=newList []) (gL ?_);refine zQ02 ⟨plainId_quiet F.plain_list_iadd _,codeAny_builtin F.entry_list_iadd ?_⟩;rw[Around.under_plainId F.plain_list_iadd _];obtain⟨lo,Z⟩:∃lo:Obj,lo={cls:= .type "list",data:= .seq ([]:List Value).toArray}:=⟨_,rfl⟩;show wpAny _ A.in1 (Builtin.List.listExtendWith (.ref s.heap.objs.size) (.ref S) (.ref s.heap.objs.size)) _ _ _;unfold Builtin.List.listExtendWith;have u:(s.heap.push {cls:= .type "list",data:= .seq ([]:List Value).toArray}).get? S=some (sobj es ep t):=zQ01 _ r;refine zQ00 (wpAny_typeOf (T:="set") ⟨_,u,rfl⟩ ?_);have h1:Builtin.List.listSameRef (.ref s.heap.objs.size) (.ref S)=false:=by simp[Builtin.List.listSameRef];exactλz=>Nat.lt_irrefl _ (z▸hlt)
 rw[if_neg (by rw[h1];decide)];refine zQ00 (zh u y ht G λh2 d I M ord D hT g N a B Y C=>?_);have l:h2.get? s.heap.objs.size=some {cls:= .type "list",data:= .seq ([]:List Value).toArray}:=C _ _ (zQ06 _ rfl);have hne:S≠I:=λz=>by rw[zQ21]at a;rw[<-z]at a;exact Nat.lt_irrefl _ (dQ hlt (cu (Nat.le_succ _) a))
 have c:Shared.TypeIs {s with heap:=h2,drawn:=d} (.ref S) "set":=⟨_,D.1,rfl⟩;refine zQ00 (eh ?_);unfold Builtin.List.listLengthHint;refine zQ00 (wpAny_specialOf c DP ?_);(generalize f:("set.__len__":String)=H;(fail_if_success(clear f H));wp_delta;rw[show splitId H=some ("set","__len__")from by subst f;exact Eo];subst f);refine zQ00 (wpAny_isInstance (b:=true) c sub_set_self ?_);refine bR (λz=>nomatch z) λ_=>?_;refine bR (λ_=>?_) λz=>absurd (by decide+kernel) z;refine zQ00 (wpAny_typeOf c (zQ02 ?_));refine bR (λ_=>?_) λz=>absurd (by decide+kernel) z;refine zQ00 (wpAny_rule (zQ00 ?_));refine zQ00 (m:=updateSeq s.heap.objs.size (·.push .none)) (wpAny_updateSeq l rfl ?_);have p:=kX (Obj.mapSeq (·.push Value.none)) l rfl;refine wpAny_updateSeq p rfl ?_;have O:=kX (Obj.mapSeq (·.pop)) p rfl;have J:∀b o,b≠s.heap.objs.size->h2.get? b=some o->((h2.update s.heap.objs.size (Obj.mapSeq (·.push Value.none))).update s.heap.objs.size (Obj.mapSeq (·.pop))).get? b=some o:=λb o hb e=>(fH _ _ (Ne.symm hb)).trans ((fH _ _ (Ne.symm hb)).trans e);have hSf:s.heap.objs.size∉I::S::M:=λz=>by
  rw[zQ21]at a B;rcases List.mem_cons.mp z with z|z;·rw[<-z]at a;exact Nat.lt_irrefl _ a
  ·rcases List.mem_cons.mp z with z|z;·rw[<-z]at hlt;exact Nat.lt_irrefl _ hlt
   ·exact Nat.lt_irrefl _ (B _ z)
 have hlen:ord.length=es.size:=by rw[g.length_eq,cT,Array.length_toList]
 have W:=yK (prog:=prog) (A:=A.in1) hh y ht hlen hne N (ep:=ep);refine zQ02 ⟨plainId_quiet F.plain_extend_loop _,codeAny_extend_loopS W (fits_of_scanBound G) _ hSf _ es.size 0 _ _ _ (by omega) (zQ11 _) (W.frame 0 {s with heap:=h2,drawn:=d} _ s.toks ⟨D,hT⟩ (zQ04 _) λb hb o e=>J b o (λz=>hSf (z▸hb)) e) O (ItemsOf.nil _) λs' i X hm hS' x=>?_⟩;refine zQ00 (m:=load s.heap.objs.size) (wpAny_load hS' (zQ02 ?_));have L:i.toList=ord:=by refine List.ext_getElem? λj=>?_;rw[Array.getElem?_toList];cases q:i[j]? with|some v=>exact(x.2 j v q).symm|none=>have :=Array.getElem?_eq_none_iff.mp q;rw[List.getElem?_eq_none (by rw[hlen,<-x.1];exact this)]
 obtain⟨h',g',d',tk',os'⟩:=s';have eg:g'=s.gens:=hm.gens;have ed:d'=d:=hm.drawn;have eo:os'=s.os:=hm.os;subst eg ed eo;have hints:∀v,v∈ord->∃n t,v= .int n t:=λv hv=>by obtain⟨e,he,rfl⟩:=List.mem_map.mp (g.mem_iff.mp hv);obtain⟨⟨k,U,_⟩,_⟩:=R e he;obtain⟨t,K⟩:=Value.isInt_shape U;exact⟨k,t,K⟩
 rw[L];refine h h' d' tk' ord (ord.map numOf) (intsAre_map ord hints) ?_ (Nat.le_of_lt (zQ05 hS')) λb o e=>?_;·refine(g.map numOf).trans ?_;rw[List.map_map];exact V
 ·have hb:b≠s.heap.objs.size:=zQ18 (zQ05 e);have P:b≠I:=λz=>by rw[zQ21]at a;exact Nat.lt_irrefl _ (dQ (zQ05 e) (cu (Nat.le_succ _) (z▸a)))
  exact hm.heap b o (λz=>by
   rcases List.mem_cons.mp z with z|z;·exact hb z
   ·exact P (List.mem_singleton.mp z)) (J b o hb (C b o (zQ01 _ e)))
end
section
variable{prog:Program}{w:World}{A:Around}{E:Value->Shared->Prop}{s:Shared}
theorem CM{vs:List Value}{ns:List Int}(a:IntsAre vs ns):kl (pairsOf vs)=ns:=by
 unfold kl;rw[pairsOf_toList];have :(vs.zip vs).map kv=((vs.zip vs).map Prod.fst).map numOf:=by rw[List.map_map];rfl
 rw[this,List.map_fst_zip (zQ04 _),a.nums]
theorem vK{a:Addr}{vs:List Value}{ns:List Int}{n:Nat}{P:PySem.Fin->Shared->Prop}(ho:s.heap.get? a=some (seqObj "list" vs.toArray n))(d:IntsAre vs ns)(r:ns.Nodup)(hl:vs.length<128)(h:∀(out:Array Value)(f:List Int),IntsAre out.toList f->f.Perm ns->f.Pairwise (·<=·)->P (.done (.ret .none)) {s with heap:=sortedHeap s.heap a vs out}):wpAny (model prog w) A (Builtin.«list.sort» ⟨[.ref a],[]⟩) P E s:=by
 by_cases k:vs.length<64;·exact list_sort_tree ho d k h
 rw[list_sort_plain];have ha:a<s.heap.objs.size:=zQ05 ho;refine zQ00 (listItems_at ho rfl (zQ00 (listUpdate_at ho rfl ?_ (by rw[cG,sizeLine_eq];omega))));obtain⟨g,l⟩:∃g,(s.heap.update a (Obj.mapSeq λ_=>#[])).get? a=some (seqObj "list" #[] g):=⟨_,get?_update_seq ho (λ_=>#[])⟩;refine zQ00 (seqEpoch_at l rfl (zQ00 (wpAny_newTuple ?_ (by show vs.length<=_;rw[sizeLine_eq];omega))));refine zQ00 (wpAny_newList (eh ?_));have m:(((s.heap.update a (Obj.mapSeq λ_=>#[])).push (seqObj "tuple" vs.toArray 0)).push (seqObj "list" #[] 0)).get? a=some (seqObj "list" #[] g):=zQ01 _ (zQ01 _ l);show wpAny (model prog w) A _ P E {s with heap:=((s.heap.update a (Obj.mapSeq λ_=>#[])).push (seqObj "tuple" vs.toArray 0)).push (seqObj "list" #[] 0)};dsimp only;have u:vs.toArray.size=vs.length:=by simp
 rw[if_neg (by omega),if_neg (by omega)];obtain⟨b,c,rest,rfl⟩:∃b c rest,vs=b::c::rest:=by match vs,k with|[],q=>simp at q|[_],q=>simp at q|b::c::rest,_=>exact⟨b,c,rest,rfl⟩
 rw[keyKind_ints d];refine zQ00 (zQ02 ?_);refine zQ00 (d9 (vQ (a₀:=pairsOf (b::c::rest)) (st:=SortSt.mk' oneType' ((b::c::rest).toArray.zip (b::c::rest).toArray) #[] 7 none) (Q:=λ_ aG=>(arrOf aG).Perm (pairsOf (b::c::rest))/\failedOf aG=none/\eJ (arrOf aG) 0 (pairsOf (b::c::rest)).size) d.intKeys (by rw[CM d];exact r) ⟨Array.Perm.refl _,rfl,rfl,rfl⟩ (by rw[pairsOf_size];omega) (by rw[pairsOf_size];exact hl) λaG a1 a2 a3=>⟨a1,a2,a3⟩) ?_ λ_ _ e=>e);rintro⟨⟨⟩,aG⟩s'⟨rfl,o,p,t⟩;dsimp only;refine zQ00 (seqEpoch_at m rfl ?_);refine zQ00 (listUpdate_at m rfl ?_ (hsz2:=by refine cu (Nat.le_of_eq ((Array.size_map ..).trans (o.size_eq.trans (pairsOf_size _)))) ?_;rw[sizeLine_eq];omega));rw[p];simp only[bne_self_eq_false,gK,if_false];obtain⟨f,q1,q2,q3⟩:=sorted_out d o λi j c1 c2=>t i j (zQ11 _) c1 c2;exact zQ02 (h _ f q1 q2 q3)
theorem uf{S:Addr}{ks:List Int}{Q:Value->Shared->Prop}(hh:A.handled=none)(hS:SetI prog w s.heap S ks)(l:ks.Nodup)(hl:ks.length<128)(h:∀h' d tk a(vs:List Value)(ns:List Int)(e:Nat),h'.get? a=some (seqObj "list" vs.toArray e)->s.heap.objs.size<=a->IntsAre vs ns->ns.Perm ks->ns.Pairwise (·<=·)->(∀b o,s.heap.get? b=some o->h'.get? b=some o)->Q (.ref a) {s with heap:=h',drawn:=d,toks:=tk}):wpAny (model prog w) A (call (.builtin "sorted") [.ref S]) Q E s:=by
 refine Calls.call_function_entry kind_sorted plain_sorted entry_sorted (args_sorted1 _) ?_;unfold Builtin.«sorted»;refine zQ00 (m:=checkCount "sorted" 1 1 _) (zQ02 ?_);refine zQ00 (pj (A:=A.in1) hh hS λh' d tk vs ns g f k j=>?_);have p:vs.length=ks.length:=by rw[IntsAre.length g,f.length_eq]
 refine zQ00 (wpAny_newList ?_ (by show vs.length<=_;rw[sizeLine_eq];omega));have c:(h'.push (seqObj "list" vs.toArray 0)).get? h'.objs.size=some (seqObj "list" vs.toArray 0):=zQ06 _ rfl;refine zQ00 (eh (fF slot_list_sort ⟨_,c,rfl⟩ entry_list_sort (vK c g (f.nodup_iff.mpr l) (by omega) λout n a1 a2 a3=>⟨_,rfl,?_⟩) (args_list_sort _)));refine zQ02 ⟨_,rfl,?_⟩;obtain⟨e,he⟩:=sortedHeap_at (out:=out) c;refine h _ d tk h'.objs.size out.toList n e (by simpa using he) k a1 (a2.trans f) a3 λb o i=>?_;have hb:=j b o i;rw[sortedHeap_old (zQ18 (zQ05 hb)) (by rw[size_push'];exact Nat.lt_succ_of_lt (zQ05 hb))];exact zQ01 _ hb
end
end SR
end
section
namespace L3
open PySem PySem.Spec PyProof.Rows L2 KM
mutual noncomputable def JW:D->PyData| .a_=> .none| .bl b=> .bool b| .int i=> .int i| .str x=> .str x| .tup ds=> .tuple (Ig ds)noncomputable def Ig:List D->List PyData|[]=>[]|d::ds=>JW d::Ig ds end
mutual theorem uz:∀d:D,(JW d).depth<=depth d| .a_=>zQ11 _| .bl _=>zQ11 _| .int _=>zQ11 _| .str _=>zQ11 _| .tup ds=>by show PyData.depthAll (Ig ds)+1<=1+az ds;have :=oJ ds;lia theorem oJ:∀ds:List D,PyData.depthAll (Ig ds)<=az ds|[]=>zQ11 _|d::ds=>by show max (JW d).depth (PyData.depthAll (Ig ds))<=max (depth d) (az ds);have h1:=uz d;have h2:=oJ ds;lia end
section
variable{X:Cx}{pins:List (Addr×Obj)}{σ:L2.St}{H:Hp}{s:Shared}
end
mutual noncomputable def Er:D->Bool| .a_=>true| .bl _=>false| .int _=>true| .str x=>(PyData.str x).canLay0| .tup ds=>Ef ds noncomputable def Ef:List D->Bool|[]=>true|d::ds=>Er d&&Ef ds end
mutual theorem wu:∀d:D,Er d=true->(JW d).canLay0=true| .a_,_=>rfl| .bl _,h=>by cases h| .int _,_=>rfl| .str x,h=>h| .tup ds,h=>uC ds h theorem uC:∀ds:List D,Ef ds=true->PyData.canLayAll0 (Ig ds)=true|[],_=>rfl|d::ds,h=>by have h:(Er d&&Ef ds)=true:=h;rw[cw]at h;show((JW d).canLay0&&PyData.canLayAll0 (Ig ds))=true;rw[wu d h.1,uC ds h.2];rfl end
theorem RH{d:D}(h:Er d=true)(hd:depth d<=60):SeqAt.shaped (JW d)=true:=by unfold SeqAt.shaped;rw[wu d h,Bool.true_and];exact decide_eq_true (cu (uz d) (by lia))
section
variable{P:Program}{w:World}
open SeqAt MeetsSeq3 in open SeqAt MeetsSeq3 in end
section
variable{X:Cx}
end
end L3
end
section
namespace L3
open PySem
end L3
end
section
namespace L3
open PySem PySem.Builtin PySem.Builtin.Str PySem.StrLaws
noncomputable def sg(a:Nat):List Nat:=if a=40 then[32,40,32]else if a=41 then[32,41,32]else if a=10 then[32]else[a]
noncomputable def brk(c:Nat):Bool:=c==32||c==10||c==40||c==41
end L3
end
section
namespace L3
open PySem PySem.Spec PyProof.Rows L2 KM
section
variable{X:Cx}
variable{e:Expr}{es:List Expr}{te:TE}{st:Stmt}{rest:List Stmt}{t u:TS}{pos:Pos}
end
structure RM(P:Program)(w:World)(K:PySem.W.Frag)(mg:Str->Option Value)(base:Heap)(CX:lC)(k:Nat)(f:Addr)(fd:FuncData)(ps:List Str)(sp:Sp):Prop where
 len:∀vs H Q E,sp vs H Q E->vs.length=ps.length
 run:∀(A:Around)(outer:List Env)(s:Shared)(H:Hp)(args:Args)(us:List Value)(vs:List V)(Q:VK)(E:XK),0<s.toks->cx k A->sZ P w K mg base A outer s H->BindsTo s fd args (ps.zip us)->Vals vs us->sp vs H Q E->codeAny (model P w) A (.call (.ref f) args) (CR CX A.handled outer P w H s Q E) s
section
variable{X:Cx}
end
end L3
end
section
namespace L3
open PySem PySem.Spec PyProof.Rows L2
section
variable{prog:Program}{w:World}{A:Around}{E:Value->Shared->Prop}{s:Shared}
end
end L3
end
section
namespace L3
open PySem PySem.Spec PyProof.Rows L2 KM
end L3
end
section
namespace L3
open PySem PySem.Spec PyProof.Rows L2
theorem vO:∀(B:Nat)(l:List Int),l.Nodup->(∀z,z∈l->0<=z/\z<(B:Int))->l.length<=B
 |0,l,_,h=>by cases l with|nil=>simp|cons z l=>have :=h z cY;omega
 |B+1,l,hn,h=>by
  have :=vO B (l.erase (B:Int)) (hn.erase _) λz a=>by
   have h1:=h z (List.mem_of_mem_erase a);have h2:z≠(B:Int):=λe=>by rw[e]at a;exact(List.Nodup.mem_erase_iff hn).mp a|>.1 rfl
   omega
  rw[List.length_erase]at this;split at this<;>omega
theorem AG{l:List Int}(h1:l.Pairwise (·<=·))(h2:l.Nodup):l.Pairwise (·<·):=(h1.and h2).imp λ⟨a,b⟩=>by omega
theorem eU:∀{ns:List Int}{us:List Value},Vals (ns.map V.int) us->IntsAre us ns|[],_, .nil=> .nil|n::ns,_, .cons r t=>by obtain⟨k,rfl⟩:=r;exact .cons n k (eU t)
theorem oC:∀{ns:List Int}{us:List Value},IntsAre us ns->Vals (ns.map V.int) us|_,_, .nil=> .nil|_,_, .cons n t h=> .cons ⟨t,rfl⟩ (oC h)
theorem yF{X:Cx}{pins:List (Addr×Obj)}{s:Shared}{σ:L2.St}{H:Hp}(I:Inv X pins σ H s)(d:Drawn):Inv X pins σ H {s with drawn:=d}:=⟨I.ok,I.os,I.bare,I.base,I.loc,I.cell,I.free,I.cX,I.pin,I.bc,I.len⟩
noncomputable def Tv(K:PySem.W.Frag)(t:TA):TE:=λσ H Q=>t σ H λvs a=>∃(p:Addr)(ns:List Int),vs=[.ref p]/\bO K a p (ns.map V.int)/\(∀z,z∈ns->0<=z/\z<127)/\∀l(b:List Int),a l=none->b.Pairwise (·<·)->(∀z,z∈b↔z∈ns)->Q (.ref l) (upd a l (.lst (b.map V.int)))
theorem vb{X:Cx}{e:Expr}{t:TA}{N r q1 q2:Pos}(hh:X.A.handled=none)(E:Gl X "sorted")(L:X.mg "sorted"=none)(F:Gl X "set")(M:X.mg "set"=none)(A:bootBuiltins "sorted"=some (.builtin "sorted"))(B:bootBuiltins "set"=some (.type "set"))(ha:PA X [e] t)(he:starEach [e] X.env=(false,eval e X.env)::starEach [] X.env:=by rfl):PE X (.Call (.Name "sorted" N) [.Call (.Name "set" r) [e] [] q2] [] q1) (Tv X.K t):=by
 intro pins s σ H Q I h;refine nK (f6 I E L A ?_ (by decide) (by decide));refine PyProof.Rows.callWith_builtin1 ?_;show wpAny _ _ (spliced ((false,eval (.Call (.Name "set" r) [e] [] q2) X.env)::backTo q1 (starEach [] X.env))) _ _ s;refine Calls.spliced_cons (nK (f6 I F M B ?_ (by decide) (by decide)));refine PyProof.Rows.callWith_type1 (bw (ha q2 pins s σ H _ I h) λus s1 T=>?_) he rfl;obtain⟨vs,x,j,r1,p,ns,D,hq,hr,q⟩:=T;subst D;obtain⟨u,rfl,P⟩:=vals1 r1;cases P;obtain⟨W,R,O,f⟩:=j.list hq;refine SR.w_setOf hh O.isList (ns:=ns) (by simpa using eU R) (λks hn i=>by have :=vO 127 ks hn λz f=>hr z (i z f);unfold scanBound;omega) λh2 v ks hS g hm G=>?_;refine Calls.spliced_nil ?_;have K:ks.length<128:=by have :=vO 127 ks g λz f=>hr z ((hm z).mp f);omega
 refine SR.uf hh hS g K λh3 d S a vs w C ho n m c i J=>?_;have y:Inv X pins σ x {s1 with heap:=h2,toks:=v}:=j.kept (h':=h2) (t':=v) λb o l=>G b o (zQ05 l) l;have k:=yF y d;have U:vs.length=ks.length:=by rw[IntsAre.length m,c.length_eq]
 refine⟨.ref a,_,k.laid (t':=S) (h':=h3) J n (show bC X.prog X.w _ h3 a (.lst (w.map V.int))from⟨?_,vs,C,oC m,ho⟩),rfl,q a w (k.bc.fresh n) (AG i (c.nodup_iff.mpr g)) λz=>c.mem_iff.trans (hm z)⟩;rw[cT,c.length_eq,sizeLine_eq];omega
end L3
end
section
namespace K17
open PySem L2 L3 KM PyProof.Rows
seal L2.PE L2.PS L2.fY L2.PT L2.PW L2.PA L2.PG L2.wN L2.PI L2.PC L2.PO L2.vT L2.PK L3.vW L3.PH L3.PB
variable{P:Program}{w:World}{K:PySem.W.Frag}{mg:Str->Option Value}{base:Heap}{t:uY}
noncomputable def dC:Nat->Int->D->List Int|n+1,b, .tup (.str x::ps)=>if x="var"then(match ps with|[.int i]=>if b<=i then[i-b]else[]|_=>[])else((List.range (ak x ps).length).map λi=>dC n (b+fG x i) (((ak x ps)[i]?).getD .a_)).flatten|_,_,_=>[]
theorem xA(f:Nat->List Int):∀(m j:Nat),j<=m->(((List.range j).map f).flatten).length<=(((List.range m).map f).flatten).length
 |0,j,h=>by rw[show j=0 by omega];exact zQ04 _
 |m+1,j,h=>by
  by_cases e:j=m+1;·rw[e];exact zQ04 _
  ·have :=xA f m j (by omega);rw[List.range_succ,List.map_append,List.flatten_append,fK];omega
theorem n5(f:Nat->List Int)(j:Nat):((List.range (j+1)).map f).flatten=((List.range j).map f).flatten++f j:=by rw[List.range_succ,List.map_append,List.flatten_append];simp
def Dv(n:Nat):Sp:=λvs H Q _=>∃(d:D)(v:V)(b:Int),vs=[v, .int b]/\Rep H d v/\Wf d/\depth d<n/\0<=b/\(dC n b d).length<=16000000/\∀(a:Addr)(H':Hp),H a=none->aK H H'->H' a=some (.lst ((dC n b d).map V.int))->Q (.ref a) H'
theorem cP:aP ["thing","binders","numbers","kid","bound"] ["thing","binders"] (ao cj):=⟨rfl,rfl,rfl,by decide+kernel,rfl,by decide+kernel,by decide+kernel⟩
theorem kT{n:Nat}(D:Df K mg "numbers_free" cj ["thing","binders"])(M:Mg mg t)(bp:bZ P w K mg bW "kids_of" (1) ["thing"] g7)(bX:bZ P w K mg bW "binds_of" (1) ["thing"] iy)(eI:bZ P w K mg bW "numbers_free" (n+3) ["thing","binders"] (Dv n)):bZ P w K mg bW "numbers_free" (n+4) ["thing","binders"] (Dv (n+1)):=by
 refine D.ok cP (λvs H Q E h=>?_) (λbase f cS A outer s H vs Q E hr h=>?_);·obtain⟨d,v,b,rfl,_⟩:=h;rfl
 obtain⟨d,v,b,rfl,r,Jj,hd,hb,hl,q⟩:=h;refine⟨_,(ar (bH (aN ck (bY da (pv 0) ag (λ_ _=>rfl)) ai (aS _)) (aq (aF (fZ (aN CF (bY da (pv 0) ag (λ_ _=>rfl)) (pv 1) (aS _)) (cD (aa (aD jB (bY da (pv 0) ag (λ_ _=>rfl)) (pv 1)) af)) (cD af)))) aY) (ar (aM (i:=2) cP.nd rfl (eN rfl) (cD af)) (ar (mJ PassesOwn.never rfl (w8 rfl M.Gi (aa (aH bp hr.m rfl aX (aa (pv 0) af)) (aa (aH bX hr.m rfl aX (aa (pv 0) af)) af))) (Bn (n:=2) rfl (jn (cM (i:=3) cP.nd rfl (eN rfl)) (jn (cM (i:=4) cP.nd rfl (eN rfl)) wj))) (aq (qd (A5 PySem.F.plainAttrs_list PySem.F.slot_list_extend PySem.F.type_list_extend nQ (pv 2) (aa (aH eI hr.m rfl aX (aa (pv 3) (aa (aD b9 (pv 1) (pv 4)) af))) af))))) (aq (aF (pv 2)))))),?_⟩;try dsimp only[r_,gG]
 refine M3 ?_;intro _ _ _ _;obtain⟨x,ps,k,rfl,wf,JV⟩:=vY Jj;have NP:=CZ wf;obtain⟨a,C5,rfl,ha,v0,C5,rfl,⟨rfl,hx⟩,rp⟩:=id r;have ea:rO (V.str x::C5) 0=some (.str x):=bF (j:=0) rfl;refine⟨_,rfl,a,_,_,_,rfl,rfl,d8.of ha,ea,rfl,_,rfl,?_⟩;refine dg (λc=>?_) (λc=>?_)
 ·have c:V.str x=V.str "var":=of_decide_eq_true c;cases c;obtain⟨sh,e1,_,O,_,R,_⟩:=bT wf;rw[cV]at e1;cases e1;rw[mq]at O R;obtain⟨g,rfl⟩:∃g,ps=[g]:=by cases ps with|nil=>simp at R|cons g rest=>cases rest with|nil=>exact⟨g,rfl⟩|cons _ _=>simp at R
  rw[aw,cw]at O;have hn:fI g=true:=by simpa[cE]using O.1
  obtain⟨i,rfl⟩:∃i,g= .int i:=by cases g<;>first|exact⟨_,rfl⟩|simp[fI]at hn
  obtain⟨u1,Rm,rfl,r1,_⟩:=rp;cases(show u1=V.int i from r1);have e:dC (n+1) b (.tup [.str "var", .int i])=if b<=i then[i-b]else[]:=by rw[dC,if_pos rfl]
  rw[e]at q;refine⟨_,rfl,a,_,_, .int i,rfl,rfl,d8.of ha,bF (j:=1) rfl,_,rfl,_,_,rfl,rfl,_,rfl,?_⟩;refine dg (λc=>?_) (λc=>?_);·have c:b<=i:=of_decide_eq_true c;rw[if_pos c]at q;exact⟨_,rfl,a,_,_, .int i,rfl,rfl,d8.of ha,bF (j:=1) rfl,_,rfl,_,_,rfl,rfl,(eZ rfl),λp m=>q p _ m (ah m _) aj⟩
  ·have c:¬b<=i:=of_decide_eq_false (Bool.eq_false_iff.mpr c);rw[if_neg c]at q;exact⟨(eZ rfl),λp m=>q p _ m (ah m _) aj⟩
 have hv:x≠"var":=λz=>c (by rw[z];exact decide_eq_true rfl);have e:dC (n+1) b (.tup (.str x::ps))=((List.range (ak x ps).length).map λi=>dC n (b+fG x i) (((ak x ps)[i]?).getD .a_)).flatten:=by
  conv=>lhs;unfold dC
  exact if_neg hv
 rw[e]at q hl;refine⟨(eZ rfl),λg B=>?_⟩;refine⟨_,rfl,x,ps,_,rfl,r.mono (ah B _),JV,λp1 us H1 RY s1 h1 r1=>⟨_,rfl,x,ps,_,k,rfl,(r.mono (ah B _)).mono s1,wf,λI Z s2 h2=>?_⟩⟩;have sA:=(ah B (.lst [])).trans (s1.trans s2);have S:Z g=some (.lst []):=s2 _ _ (s1 _ _ aj);have T:=s2 _ _ h1;have l1:=r1.length;have Ru:p1≠g:=λz=>by rw[z,aj]at RY;cases RY
 have QH:=r1.mono s2;refine⟨p1,I,us,_,rfl,bO.of T,bO.of h2,uS us.length (λj Y H'=>∃kv N,Y=[some (.ref a),some (.int b),some (.ref g),kv,N]/\H' g=some (.lst ((((List.range j).map λi=>dC n (b+fG x i) (((ak x ps)[i]?).getD .a_)).flatten).map V.int))/\c8 g Z H') ⟨none,none,rfl,S,λ_ _ _ h=>h⟩ ?_ ?_⟩
 ·rintro i Y C hi⟨kv,N,rfl,m,u⟩;have W:i<(ak x ps).length:=by omega
  have VP:I≠g:=λz=>by rw[z,S]at h2;have :=congrArg (λo=>match o with|some (HO.lst l)=>l.length|_=>0) h2;simp[jv]at this;omega
  obtain⟨F,G⟩:∃F,(ak x ps)[i]?=some F:=⟨_,zQ03 W⟩;obtain⟨L,C9,GX⟩:=QH.get G;have hbi:(jv x (ak x ps).length)[i]?=some (.int (fG x i)):=by unfold jv;rw[fU,List.getElem?_range W];show some (gS x i)=_;rw[wH]
  have g1:=u _ _ Ru T;have g2:=u _ _ VP h2;refine⟨⟨us,_,L,_,bO.of g1,bO.of g2,C9,hbi⟩,?_⟩;rintro y H4⟨p,x',y',rfl,O0,rfl,hy⟩;obtain⟨y1,y2⟩:=hy us _ (bO.of g1) (bO.of g2);rw[C9]at y1;rw[hbi]at y2;cases y1;cases y2;have J:=ah O0 (.tup [L, .int (fG x i)]);obtain⟨w1,w2⟩:=cR wf G;have U:=xA (λi=>dC n (b+fG x i) (((ak x ps)[i]?).getD .a_)) (ak x ps).length (i+1) W;rw[n5,fK,G]at U;have Qn:Rep C F L:=Rep.kD u (λvs=>by rw[S];exactλz=>nomatch z) GX;refine⟨p,_,rfl,d8.of aj,rfl,_,_,rfl,_,_,rfl,rfl,?_⟩;refine⟨_,rfl, .inl ⟨rfl,_,bO.of (J _ _ m)⟩,_,rfl,_,rfl,_,rfl,_,_,rfl,rfl,F,L,b+fG x i,rfl,Qn.mono J,w1,by omega,by have :=dq x i;omega,by simp only[Option.getD_some]at U;omega,λp5 H5 Vf s5 h5=>?_⟩;have e0:=s5 _ _ (J _ _ m);refine⟨g,p5,_,_,rfl,rfl,e0,h5,?_,_,_,rfl,?_,?_⟩;·rw[cT,cT,show sizeLine=16777216 by decide];simp only[Option.getD_some]at U;omega
  ·rw[n5,List.map_append,G];exact aj
  ·exactλc o hc h=>by rw[aI hc];exact s5 _ _ (J _ _ (u c o hc h))
 ·rintro Y C⟨kv,N,rfl,m,u⟩;have st:∃X,bO K C I X:=by
   by_cases z:I=g;·exact⟨_,by rw[z];exact bO.of m⟩
   ·exact⟨_,bO.of (u _ _ z h2)⟩
  obtain⟨X,Ui⟩:=st;rw[l1]at m;exact⟨⟨us,X,bO.of (u _ _ Ru T),Ui,rfl⟩,_,rfl,q g C B (λc o h=>u c o (aA h B) (sA c o h)) m⟩
theorem fR(D:Df K mg "numbers_free" cj ["thing","binders"])(M:Mg mg t)(c:bZ P w K mg bW "kids_of" (1) ["thing"] g7)(a:bZ P w K mg bW "binds_of" (1) ["thing"] iy):∀n:Nat,bZ P w K mg bW "numbers_free" (n+3) ["thing","binders"] (Dv n)|0=>bZ.never D λvs H Q E⟨d,v,b,_,_,_,h,_⟩=>absurd h (kO _)|n+1=>kT D M c a (fR D M c a n)
def KL(n:Nat):Sp:=λvs H Q _=>∃(d:D)(v:V),vs=[v]/\Rep H d v/\Wf d/\depth d<n/\(dC n 0 d).length<=16000000/\(∀z,z∈dC n 0 d->0<=z/\z<127)/\∀(a:Addr)(b:List Int)(H':Hp),H a=none->aK H H'->b.Pairwise (·<·)->(∀z,z∈b↔z∈dC n 0 d)->H' a=some (.lst (b.map V.int))->Q (.ref a) H'
theorem uR:aP ["thing"] ["thing"] (ao gB):=⟨rfl,rfl,rfl,by decide+kernel,rfl,by decide+kernel,by decide+kernel⟩
theorem yn(D:Df K mg "free_in" gB ["thing"])(M:Mg mg t)(b:bZ P w K mg bW "numbers_free" (63) ["thing","binders"] (Dv 60)):bZ P w K mg bW "free_in" (140) ["thing"] (KL 60):=by
 refine D.ok uR (λvs H Q E h=>?_) (λbase f cS A outer s H vs Q E hr h=>?_);·obtain⟨d,v,rfl,_⟩:=h;rfl
 obtain⟨d,v,rfl,r,j,hd,hl,e,q⟩:=h;have hh:=hr.hd (by decide);refine⟨_,(aq (aF (vb hh rfl M.Bo rfl M.KU yD II (aa (aH b hr.m rfl aX (aa (pv 0) (aa ag af))) af)))),?_⟩;try dsimp only[r_,n]
 exact⟨_,rfl,d,v,0,rfl,r,j,hd,by decide,hl,λi m o s1 h1=>⟨i,dC 60 0 d,rfl,bO.of h1,e,λl k a g c=>q l k _ (s1.free a) (s1.trans (ah a _)) g c aj⟩⟩
end K17
end
section
namespace K17
open PySem L2 L3 KM PyProof.Rows
theorem bx(g:Int->Int->D)(n:Nat)(b i:Int):bI g (n+1) b (.tup [.str "var", .int i])=if b<=i then g (i-b) b else .tup [.str "var", .int i]:=by rw[bI,if_pos rfl]
theorem cI(g:Int->Int->D)(n:Nat)(b:Int){x:Str}(a:x≠"var")(ps:List D):bI g (n+1) b (.tup (.str x::ps))=aR x ps ((List.range (ak x ps).length).map λi=>bI g n (b+fG x i) (((ak x ps)[i]?).getD .a_)):=by
 conv=>lhs;unfold bI
 exact if_neg a
theorem cK(g:Int->Int->D):∀(n m:Nat)(b:Int)(d:D),Wf d->depth d<n->depth d<m->bI g n b d=bI g m b d
 |0,_,_,_,_,h,_=>absurd h (kO _)
 |_,0,_,_,_,_,h=>absurd h (kO _)
 |n+1,m+1,b,d,⟨k,wf⟩,h1,h2=>by
  obtain⟨x,ps,rfl⟩:=cN wf;by_cases hv:x="var";·subst hv;obtain⟨i,rfl,_,_⟩:=dY wf;rw[bx,bx]
  ·rw[cI g n b hv,cI g m b hv];congr 1;refine List.map_congr_left λi hi=>?_;have hi:=List.mem_range.mp hi;obtain⟨p,e⟩:∃p,(ak x ps)[i]?=some p:=⟨_,zQ03 hi⟩;obtain⟨w1,w2⟩:=cR wf e;rw[e];exact cK g n m _ p w1 (by omega) (by omega)
theorem fA{g g' g'':Int->Int->D}{c:Int}{r:Nat}(hc:0<=c)(hw:∀k b,0<=k->0<=b->Wf (g k b)/\depth (g k b)<=r)(m:∀k b,0<=k->0<=b->bI g' (r+1) (b+c) (g k b)=g'' k b):∀(n:Nat)(b:Int)(d:D),0<=b->Wf d->depth d<n->bI g' (n+r) (b+c) (bI g n b d)=bI g'' n b d
 |0,_,_,_,_,h=>absurd h (kO _)
 |n+1,b,d,hb,⟨k,wf⟩,h=>by
  obtain⟨x,ps,rfl⟩:=cN wf;have a:n+1+r=n+r+1:=by omega
  by_cases hv:x="var"
  ·subst hv;obtain⟨i,rfl,_,_⟩:=dY wf;rw[bx,bx];by_cases hi:b<=i;·rw[if_pos hi,if_pos hi];obtain⟨w1,w2⟩:=hw (i-b) b (by omega) hb;rw[cK g' (n+1+r) (r+1) _ _ w1 (by omega) (by omega)];exact m _ _ (by omega) hb
   ·rw[if_neg hi,if_neg hi,a,bx,if_neg (by omega)]
  ·rw[cI g n b hv,cI g'' n b hv];by_cases hq:ak x ps=[];·unfold aR;rw[hq];simp only[List.length_nil,List.range_zero,List.map_nil,if_true];rw[a,cI g' (n+r) (b+c) hv,hq];unfold aR;simp
   ·have nl:bV x=false:=by cases e:bV x with|false=>rfl|true=>exact absurd (by unfold ak;rw[if_pos e]) hq
    have j:∀l:List D,ak x l=l:=λl=>by unfold ak;rw[nl];rfl
    have ne:∀f:Nat->D,(List.range (ak x ps).length).map f≠[]:=λf z=>hq (List.length_eq_zero_iff.mp (by have :=congrArg List.length z;simpa using this));have rb:∀f:Nat->D,aR x ps ((List.range (ak x ps).length).map f)= .tup (.str x::(List.range (ak x ps).length).map f):=λf=>by unfold aR;rw[if_neg (ne f)]
    rw[rb,rb,a,cI g' (n+r) (b+c) hv];have q:0<ps.length:=by rw[j]at hq;exact List.length_pos_iff.mpr hq
    simp only[j,cT,mw];unfold aR;rw[if_neg (λz=>by have :=congrArg List.length z;rw[cT,mw]at this;exact Nat.ne_of_gt q this)];congr 2;refine List.map_congr_left λi hi=>?_;have o:=List.mem_range.mp hi;obtain⟨p,e⟩:∃p,ps[i]?=some p:=⟨_,zQ03 o⟩;obtain⟨w1,w2⟩:=cR wf (by rw[j];exact e);rw[fU,List.getElem?_range o,e];simp only[Option.map_some,Option.getD_some];rw[e];simp only[Option.getD_some];rw[show b+c+fG x i=b+fG x i+c by omega];exact fA hc hw m n _ p (by have :=dq x i;omega) w1 (by omega)
theorem Fh{g:Int->Int->D}(a:∀k b,0<=k->0<=b->g k b= .tup [.str "var", .int (k+b)]):∀(n:Nat)(b:Int)(d:D),0<=b->Wf d->depth d<n->bI g n b d=d
 |0,_,_,_,_,h=>absurd h (kO _)
 |n+1,b,d,hb,⟨k,wf⟩,h=>by
  obtain⟨x,ps,rfl⟩:=cN wf;by_cases hv:x="var"
  ·subst hv;obtain⟨i,rfl,_,_⟩:=dY wf;rw[bx];split;·rw[a _ _ (by omega) hb,show i-b+b=i by omega]
   ·rfl
  ·rw[cI g n b hv];have :((List.range (ak x ps).length).map λi=>bI g n (b+fG x i) (((ak x ps)[i]?).getD .a_))=ak x ps:=by
    refine List.ext_getElem? λi=>?_;by_cases hi:i<(ak x ps).length;·obtain⟨p,e⟩:∃p,(ak x ps)[i]?=some p:=⟨_,zQ03 hi⟩;obtain⟨w1,w2⟩:=cR wf e;rw[fU,List.getElem?_range hi,e];simp only[Option.map_some,e,Option.getD_some];rw[Fh a n _ p (by have :=dq x i;omega) w1 (by omega)]
    ·rw[List.getElem?_eq_none (by simpa using hi),List.getElem?_eq_none (by omega)]
   rw[this];unfold aR;by_cases hq:ak x ps=[];·rw[if_pos hq]
   ·rw[if_neg hq];have nl:bV x=false:=by cases e:bV x with|false=>rfl|true=>exact absurd (by unfold ak;rw[if_pos e]) hq
    have :ak x ps=ps:=by unfold ak;rw[nl];rfl
    rw[this]
theorem mj{x y:Int}(h:x=y):(D.tup [.str "var", .int x])= .tup [.str "var", .int y]:=by rw[h]
theorem A4{z:Int}(h:0<=z):Wf (.tup [.str "var", .int z])/\depth (.tup [.str "var", .int z])<=1:=⟨⟨false,rV h⟩,by simp[depth,az]⟩
theorem jt{by_ low:Int}(a:0<=by_)(k b:Int)(c:0<=k)(hb:0<=b):Wf (aT by_ low k b)/\depth (aT by_ low k b)<=1:=by unfold aT;refine A4 ?_;split<;>omega
theorem cz{by_ low:Int}(b:0<=by_){n:Nat}{d:D}(hd:depth d<n)(hw:Wf d):Wf (bI (aT by_ low) n 0 d)/\depth (bI (aT by_ low) n 0 d)=depth d:=by obtain⟨k,wf⟩:=hw;obtain⟨a,_,c⟩:=dr (low:=low) b n 0 d k (Int.le_refl 0) hd wf;exact⟨⟨k,a⟩,c⟩
theorem Bq{o d:D}{low:Int}(hl:0<=low)(hw:Wf d)(hd:depth d<57):cf o low (bI (aT 1 low) 58 0 d)=d:=by
 obtain⟨w1,e⟩:=cz (by_:=1) (low:=low) (n:=58) (by decide) (by omega) hw;have :=fA (g:=aT 1 low) (g':=bj o low) (g'':=λk b=> .tup [.str "var", .int (k+b)]) (c:=0) (r:=1) (Int.le_refl 0) (λk b a hb=>jt (by decide) k b a hb) (λk b a hb=>?_) 58 0 d (Int.le_refl 0) hw (by omega);·rw[Int.add_zero]at this;show bI (bj o low) 58 0 _=d;rw[cK (bj o low) 58 (58+1) 0 _ w1 (by omega) (by omega),this];exact Fh (λ_ _ _ _=>rfl) 58 0 d (Int.le_refl 0) hw (by omega)
 ·unfold aT;rw[bx];by_cases c:low<=k;·rw[if_pos c,if_pos (by omega)];unfold bj;rw[if_neg (by omega),if_pos (by omega)];exact mj (by omega)
  ·rw[if_neg c,if_pos (by omega)];unfold bj;rw[if_neg (by omega),if_neg (by omega)];exact mj (by omega)
theorem nZ{a b:Int}{d:D}(ha:0<=a)(hb:0<=b)(g'':Int->Int->D)(hw:Wf d)(hd:depth d<57)(f:∀k c,0<=k->0<=c->g'' k c= .tup [.str "var", .int (k+c+(if a<=k then 1 else 0)+(if b<=k+(if a<=k then 1 else 0)then 1 else 0))]):bI (aT 1 b) 58 0 (bI (aT 1 a) 58 0 d)=bI g'' 58 0 d:=by
 obtain⟨w1,h⟩:=cz (by_:=1) (low:=a) (n:=58) (by decide) (by omega) hw;have :=fA (g:=aT 1 a) (g':=aT 1 b) (g'':=g'') (c:=0) (r:=1) (Int.le_refl 0) (λk b e hb=>jt (by decide) k b e hb) (λk c e hc=>?_) 58 0 d (Int.le_refl 0) hw (by omega);·rw[Int.add_zero]at this;rw[cK (aT 1 b) 58 (58+1) 0 _ w1 (by omega) (by omega),this]
 ·rw[f k c e hc];unfold aT;rw[bx];by_cases c1:a<=k;·simp only[c1,if_true];rw[if_pos (by omega)];refine mj ?_;rw[show k+c+1-(c+0)=k+1 by omega];omega
  ·simp only[c1,if_false];rw[if_pos (by omega)];refine mj ?_;rw[show k+c+0-(c+0)=k by omega,Int.add_zero];omega
theorem QA{low high:Int}{d:D}(hl:0<=low)(hh:low<=high)(hw:Wf d)(hd:depth d<57):bI (aT 1 low) 58 0 (bI (aT 1 high) 58 0 d)=bI (aT 1 (high+1)) 58 0 (bI (aT 1 low) 58 0 d):=by rw[nZ (by omega) hl (λk c=> .tup [.str "var", .int (k+c+(if high<=k then 1 else 0)+(if low<=k+(if high<=k then 1 else 0)then 1 else 0))]) hw hd λ_ _ _ _=>rfl];rw[nZ hl (by omega) (λk c=> .tup [.str "var", .int (k+c+(if high<=k then 1 else 0)+(if low<=k+(if high<=k then 1 else 0)then 1 else 0))]) hw hd λk c a hc=>?_];refine mj ?_;by_cases c1:low<=k<;>by_cases c2:high<=k<;>simp only[c1,c2,if_true,if_false]<;>(repeat' split)<;>omega
theorem sX{g h:Int->Int->D}(e:∀k b,0<=k->0<=b->g k b=h k b):∀(n:Nat)(b:Int)(d:D),0<=b->Wf d->depth d<n->bI g n b d=bI h n b d
 |0,_,_,_,_,z=>absurd z (kO _)
 |n+1,b,d,hb,⟨k,wf⟩,z=>by
  obtain⟨x,ps,rfl⟩:=cN wf;by_cases hv:x="var"
  ·subst hv;obtain⟨i,rfl,_,_⟩:=dY wf;rw[bx,bx];split;·exact e _ _ (by omega) hb
   ·rfl
  ·rw[cI g n b hv,cI h n b hv];congr 1;refine List.map_congr_left λi hi=>?_;have hi:=List.mem_range.mp hi;obtain⟨p,ep⟩:∃p,(ak x ps)[i]?=some p:=⟨_,zQ03 hi⟩;obtain⟨w1,w2⟩:=cR wf ep;rw[ep];exact sX e n _ p (by have :=dq x i;omega) w1 (by omega)
noncomputable abbrev zB(c:Int)(o:D):D:=bI (aT c 0) 58 0 o
structure Sm(o:D):Prop where
 wf:bf av false o=true
 dp:depth o<=8
theorem Sm.w{o:D}(h:Sm o):Wf o:=⟨false,h.wf⟩
theorem Sm.ra{o:D}(h:Sm o){c:Int}(hc:0<=c)(l:Int):Sm (bI (aT c l) 58 0 o):=by obtain⟨a,_,e⟩:=dr (low:=l) hc 58 0 o false (Int.le_refl 0) (by have :=h.dp;omega) h.wf;exact⟨a,by rw[e];exact h.dp⟩
theorem under{g:Int->Int->D}{o:D}{c:Int}(F:Nat)(hc:0<=c)(ho:Sm o)(d:8<F):bI g F c (zB c o)=bI (λk b=>g k (b+c)) 58 0 o:=by
 have :=fA (g:=aT c 0) (g':=g) (g'':=λk b=>g k (b+c)) (c:=c) (r:=1) hc (λk b a hb=>jt hc k b a hb) (λk b a hb=>?_) 58 0 o (Int.le_refl 0) ho.w (by have :=ho.dp;omega);·rw[Int.zero_add]at this;have hr:=ho.ra hc 0;rw[cK g F (58+1) c _ hr.w (by have :=hr.dp;omega) (by have :=hr.dp;omega),this]
 ·unfold aT;rw[if_pos a,bx,if_pos (by omega)];congr 1;omega
theorem zV{o:D}{at_:Int}(ha:0<=at_)(ho:Sm o)(k b:Int)(d:0<=k)(hb:0<=b):Wf (bj o at_ k b)/\depth (bj o at_ k b)<=8:=by
 unfold bj;split;·have :=ho.ra hb 0;exact⟨this.w,this.dp⟩
 ·obtain⟨a,c⟩:=A4 (z:=k+b-(if at_<k then 1 else 0)) (by split<;>omega);exact⟨a,by omega⟩
theorem M4{o:D}{b c:Int}(hb:0<=b)(hc:0<=c)(ho:Sm o)(F:Nat)(d:8<F):bI (aT c 0) F b (zB b o)=zB (b+c) o:=by rw[under F hb ho d];refine sX (λk b' a e=>?_) 58 0 o (Int.le_refl 0) ho.w (by have :=ho.dp;omega);unfold aT;rw[if_pos a,if_pos a];exact mj (by omega)
theorem Jb{o u:D}{at_ c:Int}(ha:0<=at_)(hc:0<=c)(ho:Sm o)(a:Sm u):zB c (cf u at_ o)=bI (λk b=>bj u at_ k (b+c)) 58 0 o:=by
 have :=fA (g:=bj u at_) (g':=aT c 0) (g'':=λk b=>bj u at_ k (b+c)) (c:=0) (r:=8) (Int.le_refl 0) (λk b d hb=>zV ha a k b d hb) (λk b d hb=>?_) 58 0 o (Int.le_refl 0) ho.w (by have :=ho.dp;omega);·rw[Int.zero_add]at this;obtain⟨w1,_,w2,_⟩:=cA ha a.wf (by have :=a.dp;omega) 58 0 o false (Int.le_refl 0) (by have :=ho.dp;omega) ho.wf;have h1:=ho.dp;have h2:=a.dp;show bI (aT c 0) 58 0 _=_;rw[cK (aT c 0) 58 (58+8) 0 _ ⟨false,w1⟩ (by omega) (by omega)];exact this
 ·rw[Int.add_zero];unfold bj;by_cases e:k=at_;·rw[if_pos e,if_pos e];exact M4 hb hc a _ (by omega)
  ·rw[if_neg e,if_neg e,bx];by_cases l:at_<k;·rw[if_pos l,if_pos (by omega)];unfold aT;rw[if_pos (by omega)];exact mj (by omega)
   ·rw[if_neg l,if_pos (by omega)];unfold aT;rw[if_pos (by omega)];exact mj (by omega)
theorem Dz{o:D}{h c:Int}(hc:0<=c)(ho:Sm o):zB c (bI (aT 1 h) 58 0 o)=bI (λk b=>aT 1 h k (b+c)) 58 0 o:=by
 have :=fA (g:=aT 1 h) (g':=aT c 0) (g'':=λk b=>aT 1 h k (b+c)) (c:=0) (r:=1) (Int.le_refl 0) (λk b a hb=>jt (by decide) k b a hb) (λk b a hb=>?_) 58 0 o (Int.le_refl 0) ho.w (by have :=ho.dp;omega);·rw[Int.zero_add]at this;have hr:=ho.ra (c:=1) (by decide) h;show bI (aT c 0) 58 0 _=_;rw[cK (aT c 0) 58 (58+1) 0 _ hr.w (by have :=hr.dp;omega) (by have :=hr.dp;omega)];exact this
 ·rw[Int.add_zero];unfold aT;rw[bx];by_cases l:h<=k;·rw[if_pos l,if_pos (by omega),if_pos (by omega)];exact mj (by omega)
  ·rw[if_neg l,if_pos (by omega),if_pos (by omega)];exact mj (by omega)
theorem CJ{o X:D}{low c:Int}(hl:0<=low)(hc:0<=c)(ho:Sm o)(F:Nat)(d:8<F):bI (bj X low) F c (zB c (bI (aT 1 low) 58 0 o))=zB c o:=by
 rw[under F hc (ho.ra (by decide) low) d];have :=fA (g:=aT 1 low) (g':=λk b=>bj X low k (b+c)) (g'':=aT c 0) (c:=0) (r:=1) (Int.le_refl 0) (λk b a hb=>jt (by decide) k b a hb) (λk b a hb=>?_) 58 0 o (Int.le_refl 0) ho.w (by have :=ho.dp;omega);·rw[Int.zero_add]at this;have hr:=ho.ra (c:=1) (by decide) low;rw[cK _ 58 (58+1) 0 _ hr.w (by have :=hr.dp;omega) (by have :=hr.dp;omega)];exact this
 ·rw[Int.add_zero];unfold aT;rw[bx,if_pos a];by_cases l:low<=k;·rw[if_pos l,if_pos (by omega)];unfold bj;rw[if_neg (by omega),if_pos (by omega)];exact mj (by omega)
  ·rw[if_neg l,if_pos (by omega)];unfold bj;rw[if_neg (by omega),if_neg (by omega)];exact mj (by omega)
theorem qu{o d:D}{at_:Int}{g' g'':Int->Int->D}(ha:0<=at_)(ho:Sm o)(hw:Wf d)(hd:depth d<=45)(e:∀k b,0<=k->0<=b->bI g' 9 b (bj o at_ k b)=g'' k b):bI g' 58 0 (cf o at_ d)=bI g'' 58 0 d:=by have :=fA (g:=bj o at_) (g':=g') (g'':=g'') (c:=0) (r:=8) (Int.le_refl 0) (λk b a hb=>zV ha ho k b a hb) (λk b a hb=>by rw[Int.add_zero];exact e k b a hb) 58 0 d (Int.le_refl 0) hw (by omega);rw[Int.zero_add]at this;obtain⟨k,wf⟩:=hw;obtain⟨w1,_,w2,_⟩:=cA ha ho.wf (by have :=ho.dp;omega) 58 0 d k (Int.le_refl 0) (by omega) wf;have h2:=ho.dp;rw[cK g' 58 (58+8) 0 _ ⟨k,w1⟩ (by omega) (by omega)];exact this
theorem AZ{d:D}{h:Int}{g' g'':Int->Int->D}(hw:Wf d)(hd:depth d<=45)(e:∀k b,0<=k->0<=b->bI g' 2 b (aT 1 h k b)=g'' k b):bI g' 58 0 (bI (aT 1 h) 58 0 d)=bI g'' 58 0 d:=by have :=fA (g:=aT 1 h) (g':=g') (g'':=g'') (c:=0) (r:=1) (Int.le_refl 0) (λk b a hb=>jt (by decide) k b a hb) (λk b a hb=>by rw[Int.add_zero];exact e k b a hb) 58 0 d (Int.le_refl 0) hw (by omega);rw[Int.zero_add]at this;obtain⟨w1,w2⟩:=cz (by_:=1) (low:=h) (n:=58) (by decide) (by omega) hw;rw[cK g' 58 (58+1) 0 _ w1 (by omega) (by omega)];exact this
theorem OE{one d:D}{low high:Int}(hl:0<=low)(hh:low<=high)(h1:Sm one)(hw:Wf d)(hd:depth d<=45):bI (aT 1 high) 58 0 (cf one low d)=cf (bI (aT 1 high) 58 0 one) low (bI (aT 1 (high+1)) 58 0 d):=by
 rw[qu (g'':=λk b=>if k=low then zB b (bI (aT 1 high) 58 0 one)else .tup [.str "var", .int (k+b-(if low<k then 1 else 0)+(if high<k then 1 else 0))]) hl h1 hw hd λk b a hb=>?_]
 ·refine(AZ (g':=bj (bI (aT 1 high) 58 0 one) low) hw hd λk b a hb=>?_).symm;unfold aT;rw[bx];by_cases l:high+1<=k;·rw[if_pos l,if_pos (by omega)];unfold bj;rw[if_neg (show¬k+b+1-b=low by omega),if_pos (show low<k+b+1-b by omega),if_neg (show¬k=low by omega),if_pos (show low<k by omega),if_pos (show high<k by omega)];exact mj (by omega)
  ·rw[if_neg l,if_pos (by omega),show k+b+0-b=k by omega];unfold bj;by_cases e:k=low;·rw[if_pos e,if_pos e]
   ·rw[if_neg e,if_neg e,if_neg (by omega:¬high<k)];by_cases q:low<k;·rw[if_pos q];exact mj (by omega)
    ·rw[if_neg q];exact mj (by omega)
 ·unfold bj;by_cases e:k=low;·rw[if_pos e,if_pos e];have :=under (g:=aT 1 high) 9 hb h1 (by decide);show bI (aT 1 high) 9 b (zB b one)=_;rw[this,Dz hb h1]
  ·rw[if_neg e,if_neg e,bx];by_cases q:low<k
   ·rw[if_pos q,if_pos (by omega)];unfold aT;by_cases r:high<k;·rw[if_pos (by omega),if_pos r];exact mj (by omega)
    ·rw[if_neg (by omega),if_neg r];exact mj (by omega)
   ·rw[if_neg q,if_pos (by omega)];unfold aT;rw[if_neg (by omega),if_neg (by omega:¬high<k)];exact mj (by omega)
theorem Sm.put{o u:D}{at_:Int}(ha:0<=at_)(ho:bf av false o=true)(a:bf av false u=true)(b:depth o<=4)(c:depth u<=4):Sm (cf u at_ o):=by obtain⟨w1,_,w2,_⟩:=cA ha a (by omega) 58 0 o false (Int.le_refl 0) (by omega) ho;exact⟨w1,cu w2 (by omega)⟩
theorem Pt{one other d:D}{low high:Int}(hl:0<=low)(hh:low<=high)(h1:Sm one)(h2:Sm other)(hX:Sm (cf other high one))(hw:Wf d)(hd:depth d<=45)(g:depth (cf one low d)<58):cf other high (cf one low d)=cf (cf other high one) low (cf (bI (aT 1 low) 58 0 other) (high+1) d):=by
 have a:=h2.ra (c:=1) (by decide) low;show bI (bj other high) 58 0 (cf one low d)=bI (bj (cf other high one) low) 58 0 (cf (bI (aT 1 low) 58 0 other) (high+1) d);rw[qu (g':=bj other high) (g'':=λk b=>if k=low then zB b (cf other high one)else if k=high+1 then zB b other else .tup [.str "var", .int (k+b-(if low<k then 1 else 0)-(if high+1<k then 1 else 0))]) hl h1 hw hd λk b f hb=>?_]
 ·refine(qu (g':=bj (cf other high one) low) (by omega) a hw hd λk b f hb=>?_).symm;by_cases e:k=high+1
  ·rw[if_neg (by omega),if_pos e];have :bj (bI (aT 1 low) 58 0 other) (high+1) k b=zB b (bI (aT 1 low) 58 0 other):=by unfold bj;rw[if_pos e]
   rw[this];exact CJ hl hb h2 9 (by decide)
  ·have :bj (bI (aT 1 low) 58 0 other) (high+1) k b= .tup [.str "var", .int (k+b-(if high+1<k then 1 else 0))]:=by unfold bj;rw[if_neg e]
   rw[this,bx,if_neg e];by_cases q:high+1<k;·rw[if_pos q,if_pos (by omega)];unfold bj;rw[if_neg (show¬k+b-1-b=low by omega),if_pos (show low<k+b-1-b by omega),if_neg (show¬k=low by omega),if_pos (show low<k by omega)];exact mj (by omega)
   ·rw[if_neg q,if_pos (by omega),show k+b-0-b=k by omega];unfold bj;by_cases r:k=low;·rw[if_pos r,if_pos r]
    ·rw[if_neg r,if_neg r];exact mj (by omega)
 ·by_cases e:k=low
  ·rw[if_pos e];have :bj one low k b=zB b one:=by unfold bj;rw[if_pos e]
   rw[this,under 9 hb h1 (by decide),Jb (by omega) hb h1 h2]
  ·have :bj one low k b= .tup [.str "var", .int (k+b-(if low<k then 1 else 0))]:=by unfold bj;rw[if_neg e]
   rw[this,bx,if_neg e];by_cases q:low<k
   ·rw[if_pos q,if_pos (by omega)];unfold bj;by_cases r:k=high+1;·rw[if_pos (by omega),if_pos r]
    ·rw[if_neg (by omega),if_neg r];by_cases z:high+1<k;·rw[if_pos (by omega),if_pos z];exact mj (by omega)
     ·rw[if_neg (by omega),if_neg z];exact mj (by omega)
   ·rw[if_neg q,if_pos (by omega)];unfold bj;rw[if_neg (by omega),if_neg (by omega),if_neg (by omega),if_neg (by omega)];exact mj (by omega)
end K17
end
section
namespace K17
open PySem L2 L3 KM PyProof.Rows
seal L2.PE L2.PS L2.fY L2.PT L2.PW L2.PA L2.PG L2.wN L2.PI L2.PC L2.PO L2.vT L2.PK L3.vW L3.PH L3.PB
variable{P:Program}{w:World}{K:PySem.W.Frag}{mg:Str->Option Value}{base:Heap}{t:uY}
theorem jd:∀(n:Nat)(d:D),depth d<=n->Wf d->wide d
 |n,d,hd,⟨k,h⟩=>by
  obtain⟨x,ps,rfl⟩:=cN h;obtain⟨s,h1,h2,h3,h4,h5,h6,j,_⟩:=bT h;have hl:ps.length<=4:=by rw[<-h5];simpa using h4
  refine⟨by rw[gH];omega,trivial,?_⟩;have g:∀i p,ps[i]?=some p->wide p:=λi p e=>by
   by_cases b:bV x=true;·obtain⟨f1,f2⟩:=oo h b i p e;cases p<;>first|trivial|simp[isTup]at f1
   ·have b:bV x=false:=by simpa using b
    have c:ak x ps=ps:=by unfold ak;rw[b];rfl
    obtain⟨w1,w2⟩:=cR h (i:=i) (p:=p) (by rw[c];exact e);cases n with|zero=>omega|succ n=>exact jd n p (by omega) w1
  have all:∀(a:List D),(∀i p,a[i]?=some p->wide p)->xk a:=λa=>by induction a with|nil=>intro _;exact trivial|cons q a f=>intro hq;exact⟨hq 0 q rfl,f λi p e=>hq (i+1) p (by simpa using e)⟩
  exact all ps g
structure Gd(H:Hp)(d:D)(v:V):Prop where
 r:Rep H d v
 wf:Wf d
 dp:depth d<=45
 kn:aB d<=1953125
noncomputable abbrev dD(by_ low:Int)(n:Nat)(d:D):D:=bI (aT by_ low) n 0 d
structure DQ(H:Hp)(T:Addr)(n:Nat)(by_ low:Int)(d:D)(v:V):Prop where
 r:Rep H d v
 wf:Wf d
 dp:depth d<n
 b0:0<=by_
 l0:0<=low
 tab:dU H T kQ kW
theorem DQ.VJ{H:Hp}{T:Addr}{n:Nat}{by_ low:Int}{d:D}{v:V}(h:DQ H T n by_ low d v):Rz (dD by_ low n d) n:=by obtain⟨k,wf⟩:=h.wf;obtain⟨a,b,c⟩:=dr (low:=low) h.b0 n 0 d k (Int.le_refl 0) h.dp wf;exact⟨⟨k,a⟩,by rw[c];exact h.dp,zQ11 _⟩
def mm(C T:Addr)(n:Nat):Sp:=λvs H Q E=>∃(d:D)(v:V)(by_ low:Int),vs=[v, .int by_, .int low]/\DQ H T n by_ low d v/\(∀(u:V)(H':Hp),aK H H'->qr (dD by_ low n d)=false->Rep H' (dD by_ low n d) u->Q u H')/\(∀H',aK H H'->qr (dD by_ low n d)=true->E (.ref C) none H')
theorem yL:aP ["thing","by","low"] ["thing","by","low"] (ao iW):=⟨rfl,rfl,rfl,by decide+kernel,rfl,by decide+kernel,by decide+kernel⟩
theorem Bh{n:Nat}{T:Addr}(D:Df K mg "lifted" iW ["thing","by","low"])(M:Mg mg t)(c:bZ P w K mg bW "raised" (n+5) ["thing","by","low"] (lP T n))(b:bZ P w K mg (h_ P w) "bounded" (n+4) ["thing"] (jD t.dF n)):bZ P w K mg (h_ P w) "lifted" (n+6) ["thing","by","low"] (mm t.dF T n):=by
 refine D.KR yL (λvs H Q E h=>?_) (λbase f cS A outer s H vs Q E hr h=>?_);·obtain⟨d,v,by_,low,rfl,_⟩:=h;rfl
 obtain⟨d,v,by_,low,rfl,L,q,e⟩:=h;refine⟨_,(aq (aF (aH b hr.m rfl bg (aa (aH c hr.m rfl aX (aa (pv 0) (aa (pv 1) (aa (pv 2) af)))) af)))),?_⟩;try dsimp only[r_,i]
 refine⟨_,rfl,_,rfl,_,rfl,d,v,by_,low,rfl,L.r,L.wf,L.dp,L.tab,λu g s1 r1=>?_⟩;exact⟨_,u,rfl,r1,L.VJ,λa s2 hv=>q u a (s1.trans s2) hv (r1.mono s2),λa s2 hv=>e a (s1.trans s2) hv⟩
theorem i4(n:Nat)(b:Int){x:Str}(a:x≠"var")(ps:List D):dC (n+1) b (.tup (.str x::ps))=((List.range (ak x ps).length).map λi=>dC n (b+fG x i) (((ak x ps)[i]?).getD .a_)).flatten:=by
 conv=>lhs;unfold dC
 exact if_neg a
theorem i9(n:Nat)(b i:Int):dC (n+1) b (.tup [.str "var", .int i])=if b<=i then[i-b]else[]:=by rw[dC,if_pos rfl]
theorem w4:∀(n:Nat)(b:Int)(d:D)(k:Bool),bf av k d=true->(dC n b d).length<=aB d
 |0,b,d,k,wf=>by unfold dC;simp
 |n+1,b,d,k,wf=>by
  obtain⟨x,ps,rfl⟩:=cN wf;by_cases c:x="var";·subst c;obtain⟨i,rfl,_,_⟩:=dY wf;rw[i9,(fj wf).1];split<;>simp
  ·rw[i4 n b c,(fj wf).1];have j:∀(l:List D)(g:Nat->List Int),(∀i p,l[i]?=some p->(g i).length<=aB p)->(((List.range l.length).map g).flatten).length<=(l.map aB).sum:=by intro l;induction l with|nil=>intro g _;simp|cons p l f=>intro g a;rw[gH,List.range_succ_eq_map,eO,List.flatten_cons,fK,List.map_map,eO,List.sum_cons];have a1:=a 0 p rfl;have a2:=f (λi=>g (i+1)) λi q e=>a (i+1) q (by simpa using e);exact Nat.add_le_add a1 a2
   refine cu (j (ak x ps) _ λi p e=>?_) (by omega);obtain⟨⟨h,w1⟩,w2⟩:=cR wf e;rw[e];exact w4 n _ p h w1
theorem pQ:∀{ds:List D}{i:Nat}{d:D},kR ds=false->ds[i]?=some d->eP d=false|[],_,_,_,e=>by simp at e|_::_,0,_,h,e=>by simp at e;subst e;exact(Bool.or_eq_false_iff.mp h).1|_::ds,i+1,d,h,e=>pQ (i:=i) (Bool.or_eq_false_iff.mp h).2 (by simpa using e)
theorem Dr{x:Str}{ps:List D}{k:Bool}{i:Nat}{p:D}(wf:bf av k (.tup (.str x::ps))=true)(h:eP (.tup (.str x::ps))=false)(a:x≠"var")(e:(ak x ps)[i]?=some p):eP p=false:=by
 have h1:kR (.str x::ps)=false:=by rw[eP]at h;exact h
 unfold ak at e;split at e;·simp at e
 ·exact pQ (i:=i+1) h1 (by simpa using e)
theorem zU:∀(n:Nat)(b:Int)(d:D)(k:Bool),0<=b->bf av k d=true->eP d=false->∀z,z∈dC n b d->0<=z/\z<100
 |0,b,d,k,hb,wf,c,z,a=>by unfold dC at a;simp at a
 |n+1,b,d,k,hb,wf,c,z,a=>by
  obtain⟨x,ps,rfl⟩:=cN wf;by_cases g:x="var"
  ·subst g;obtain⟨i,rfl,j,_⟩:=dY wf;have h1:i<=99:=by
    have h1:kR [.str "var", .int i]=false:=by rw[eP]at c;exact c
    have :=pQ (i:=1) h1 rfl;rw[eP]at this;simpa using this
   rw[i9]at a;split at a;·rw[List.mem_singleton]at a;omega
   ·simp at a
  ·rw[i4 n b g,List.mem_flatten]at a;obtain⟨l,hl,a⟩:=a;obtain⟨i,hi,rfl⟩:=List.mem_map.mp hl;have hi:=List.mem_range.mp hi;obtain⟨e,f⟩:∃e,(ak x ps)[i]?=some e:=⟨_,zQ03 hi⟩;obtain⟨⟨h,w1⟩,w2⟩:=cR wf f;rw[f]at a;exact zU n _ e h (by have :=dq x i;omega) w1 (Dr wf c g f) z a
theorem xB{low:Int}:∀(m n:Nat)(b:Int)(d:D),0<=b->Wf d->depth d<n->low∉dC m b (bI (aT 1 low) n b d)
 |0,_,_,_,_,_,_,h=>by unfold dC at h;simp at h
 |_,0,_,_,_,_,h,_=>absurd h (kO _)
 |m+1,n+1,b,d,hb,⟨k,wf⟩,hd,h=>by
  obtain⟨x,ps,rfl⟩:=cN wf;by_cases a:x="var"
  ·subst a;obtain⟨i,rfl,o,_⟩:=dY wf;rw[bx]at h;by_cases c:b<=i
   ·rw[if_pos c]at h;unfold aT at h;rw[i9]at h;by_cases c2:low<=i-b
    ·rw[if_pos c2]at h;split at h;·rw[List.mem_singleton]at h;omega
     ·simp at h
    ·rw[if_neg c2]at h;split at h;·rw[List.mem_singleton]at h;omega
     ·simp at h
   ·rw[if_neg c,i9,if_neg c]at h;simp at h
  ·rw[cI _ n b a]at h;by_cases hq:ak x ps=[];·unfold aR at h;rw[hq]at h;simp only[List.length_nil,List.range_zero,List.map_nil,if_true]at h;rw[i4 m b a,hq]at h;simp at h
   ·have nl:bV x=false:=by cases e:bV x with|false=>rfl|true=>exact absurd (by unfold ak;rw[if_pos e]) hq
    have f:∀j:List D,ak x j=j:=λj=>by unfold ak;rw[nl];rfl
    have o:0<ps.length:=by rw[f]at hq;exact List.length_pos_iff.mpr hq
    unfold aR at h;rw[if_neg (λz=>by have :=congrArg List.length z;rw[cT,mw,f]at this;exact Nat.ne_of_gt o this),i4 m b a]at h;simp only[f,cT,mw]at h;rw[List.mem_flatten]at h;obtain⟨l,hl,g⟩:=h;obtain⟨i,hi,rfl⟩:=List.mem_map.mp hl;have q:=List.mem_range.mp hi;obtain⟨p,e⟩:∃p,ps[i]?=some p:=⟨_,zQ03 q⟩;obtain⟨w1,w2⟩:=cR wf (by rw[f];exact e);rw[fU,List.getElem?_range q]at g;simp only[Option.map_some,Option.getD_some,e]at g;exact xB m n _ p (by have :=dq x i;omega) w1 (by omega) g
structure Tw(H:Hp)(T1 T2:Addr)(d o1 o2:D)(v u1 u2:V)(low high:Int):Prop where
 r:Rep H d v
 r1:Rep H o1 u1
 r2:Rep H o2 u2
 wf:Wf d
 dp:depth d<=45
 w1:bf av false o1=true
 w2:bf av false o2=true
 d1:depth o1<=4
 d2:depth o2<=4
 l0:0<=low
 lh:low<=high
 t1:dU H T1 kQ kW
 t2:dU H T2 kH jX
theorem Tw.mono{H H':Hp}{T1 T2:Addr}{d o1 o2:D}{v u1 u2:V}{low high:Int}(h:Tw H T1 T2 d o1 o2 v u1 u2 low high)(s:aK H H'):Tw H' T1 T2 d o1 o2 v u1 u2 low high:=⟨h.r.mono s,h.r1.mono s,h.r2.mono s,h.wf,h.dp,h.w1,h.w2,h.d1,h.d2,h.l0,h.lh,h.t1.mono s,h.t2.mono s⟩
theorem lf{H:Hp}{T1:Addr}{d:D}{v:V}{low:Int}(r:Rep H d v)(hw:Wf d)(hd:depth d<58)(l0:0<=low)(t1:dU H T1 kQ kW):DQ H T1 58 1 low d v:=⟨r,hw,hd,by decide,l0,t1⟩
theorem An{d o:D}{at_:Int}(ha:0<=at_)(hw:Wf d)(hd:depth d<58)(a:bf av false o=true)(ho:depth o<58):Wf (cf o at_ d)/\depth (cf o at_ d)<=depth d+depth o/\(∀k,bf av k d=true->bf av k (cf o at_ d)=true):=by obtain⟨k,wf⟩:=hw;obtain⟨w1,_,w2,_⟩:=cA ha a ho 58 0 d k (Int.le_refl 0) hd wf;exact⟨⟨k,w1⟩,w2,λb h'=>(cA ha a ho 58 0 d b (Int.le_refl 0) hd h').1⟩
theorem pf{H:Hp}{T1 T2:Addr}{d o:D}{v u:V}{at_:Int}(r:Rep H d v)(ro:Rep H o u)(hw:Wf d)(hd:depth d<=50)(c:bf av false o=true)(ho:depth o<=40)(ha:0<=at_)(t1:dU H T1 kQ kW)(t2:dU H T2 kH jX):Lf H T1 T2 at_ d o v u:=by obtain⟨a,b,_⟩:=An ha hw (by omega) c (by omega);exact⟨r,ro,hw,⟨false,c⟩,by omega,by omega,⟨a,by omega,zQ11 _⟩,t1,t2⟩
def wq(C T1 T2:Addr):Sp:=λvs H Q E=>∃(d o1 o2:D)(v u1 u2:V)(low high:Int),vs=[v,u1,u2, .int low, .int high]/\Tw H T1 T2 d o1 o2 v u1 u2 low high/\(∀H',aK H H'->Q (.bl true) H')/\(∀H',aK H H'->E (.ref C) none H')
theorem cZ:aP ["_law_thing","_law_one","_law_other","_law_low","_law_high","_law_first","_law_behind"] ["_law_thing","_law_one","_law_other","_law_low","_law_high"] (ao eL):=⟨rfl,rfl,rfl,by decide+kernel,rfl,by decide+kernel,by decide+kernel⟩
theorem ua{T1 T2:Addr}(D:Df K mg "_law_twice" eL ["_law_thing","_law_one","_law_other","_law_low","_law_high"])(M:Mg mg t)(g:bZ P w K mg (h_ P w) "lifted" (64) ["thing","by","low"] (mm t.dF T1 58))(m:bZ P w K mg (h_ P w) "put_in" (126) ["thing","other","at"] (pA t.dF T1 T2))(V:bZ P w K mg bW "_law_alike" (60) ["_law_told","_law_due"] (i7 60)):bZ P w K mg (h_ P w) "_law_twice" (130) ["_law_thing","_law_one","_law_other","_law_low","_law_high"] (wq t.dF T1 T2):=by
 refine D.KR cZ (λvs H Q E h=>?_) (λbase f cS A outer s H vs Q E hr h=>?_);·obtain⟨d,o1,o2,v,u1,u2,low,high,rfl,_⟩:=h;rfl
 obtain⟨d,o1,o2,v,u1,u2,low,high,rfl,T,q,a⟩:=h;refine⟨_,(ar (aM (i:=5) cZ.nd rfl (eN rfl) (aH g hr.m rfl bg (aa (aH g hr.m rfl bg (aa (pv 0) (aa ag (aa (pv 4) af)))) (aa ag (aa (pv 3) af))))) (ar (bH (ma (gb (aH V hr.m rfl aX (aa (pv 5) (aa (aH g hr.m rfl bg (aa (aH g hr.m rfl bg (aa (pv 0) (aa ag (aa (pv 3) af)))) (aa ag (aa (aD b9 (pv 4) ag) af)))) af))))) (aq (aF nX)) aY) (ar (aM (i:=5) cZ.nd rfl (eN rfl) (aH m hr.m rfl bg (aa (aH m hr.m rfl bg (aa (pv 0) (aa (pv 1) (aa (pv 3) af)))) (aa (pv 2) (aa (pv 4) af))))) (ar (aM (i:=6) cZ.nd rfl (eN rfl) (aH m hr.m rfl bg (aa (pv 0) (aa (aH g hr.m rfl bg (aa (pv 2) (aa ag (aa (pv 3) af)))) (aa (aD b9 (pv 4) ag) af))))) (ar (bH (ma (gb (aH V hr.m rfl aX (aa (pv 5) (aa (aH m hr.m rfl bg (aa (pv 6) (aa (aH m hr.m rfl bg (aa (pv 1) (aa (pv 2) (aa (pv 4) af)))) (aa (pv 3) af)))) af))))) (aq (aF nX)) aY) (ar (aM (i:=5) cZ.nd rfl (eN rfl) (aH g hr.m rfl bg (aa (aH m hr.m rfl bg (aa (pv 0) (aa (pv 1) (aa (pv 3) af)))) (aa ag (aa (pv 4) af))))) (aq (aF (aH V hr.m rfl aX (aa (pv 5) (aa (aH m hr.m rfl bg (aa (aH g hr.m rfl bg (aa (pv 0) (aa ag (aa (aD b9 (pv 4) ag) af)))) (aa (aH g hr.m rfl bg (aa (pv 1) (aa ag (aa (pv 4) af)))) (aa (pv 3) af)))) af))))))))))),?_⟩;try dsimp only[r_,gG]
 refine O7 ?_;intro _ _ _ _ _ _ _;have hl:=T.l0;have hh:=T.lh;have OC:=T.dp;have Hb:=T.d1;have hd2:=T.d2;have u:Sm o1:=⟨T.w1,by omega⟩;have N:Sm o2:=⟨T.w2,by omega⟩;have b:∀(l:Int),Wf (dD 1 l 58 d)/\depth (dD 1 l 58 d)=depth d:=λl=>cz (by_:=1) (low:=l) (n:=58) (by decide) (by omega) T.wf;refine⟨_,rfl,_,rfl,d,v,1,high,rfl,lf T.r T.wf (by omega) (by omega) T.t1,λa1 W s1 g1 r1=>?_,λW s1 _=>a W s1⟩;refine⟨_,rfl,_,a1,1,low,rfl,lf r1 (b high).1 (by rw[(b high).2];omega) hl (T.t1.mono s1),λa2 X s2 g2 r2=>?_,λX s2 _=>a X (s1.trans s2)⟩;have y:=s1.trans s2;have L:=T.mono y;clear g1 g2 r1 s1 s2;have e2:dD 1 low 58 (dD 1 high 58 d)=dD 1 (high+1) 58 (dD 1 low 58 d):=QA hl hh T.wf (by omega);refine⟨_,rfl,_,rfl,_,rfl,d,v,1,low,rfl,lf L.r T.wf (by omega) hl L.t1,λa3 Y p g3 r3=>?_,λY p _=>a Y (y.trans p)⟩;refine⟨_,rfl,_,_,rfl,rfl,_,a3,1,high+1,rfl,lf r3 (b low).1 (by rw[(b low).2];omega) (by omega) (L.t1.mono p),λa4 Z z g4 r4=>?_,λZ z _=>a Z (y.trans (p.trans z))⟩;obtain⟨x1,x2⟩:=cz (by_:=1) (low:=low) (n:=58) (by decide) (by rw[(b high).2];omega) (b high).1;rw[<-e2]at r4;refine⟨_,a2,a4,rfl,r2.mono (p.trans z),r4,jd _ _ (zQ04 _) x1,by rw[x2,(b high).2];omega,λH5 s5=>⟨true,rfl,dZ ?_⟩⟩;have C:=y.trans (p.trans (z.trans s5));have TA:=T.mono C;clear x1 x2 r4 r3 r2 p z s5 y L e2 g3 g4 a3 a4 X Y Z a1 W;obtain⟨U,y2,_⟩:=An hl T.wf (by omega) T.w1 (by omega);obtain⟨z1,z2,_⟩:=An (at_:=high) (by omega) U (by omega) T.w2 (by omega);refine⟨_,rfl,_,rfl,_,rfl,d,o1,v,u1,low,rfl,pf TA.r TA.r1 T.wf (by omega) T.w1 (by omega) hl TA.t1 TA.t2,λb1 H6 j _ r6=>?_,λH6 j _=>a H6 (C.trans j)⟩;refine⟨_,rfl,_,rfl,_,o2,b1,u2,high,rfl,pf r6 (TA.r2.mono j) U (by omega) T.w2 (by omega) (by omega) (TA.t1.mono j) (TA.t2.mono j),λb2 H7 O _ r7=>?_,λH7 O _=>a H7 (C.trans (j.trans O))⟩;have F:=C.trans (j.trans O);have TB:=T.mono F;clear r6 j O C TA H6 H5 b1;have MR:Sm (dD 1 low 58 o2):=N.ra (c:=1) (by decide) low;have Wm:depth (dD 1 low 58 o2)=depth o2:=(cz (by_:=1) (low:=low) (n:=58) (by decide) (by omega) N.w).2;obtain⟨p1,p2,_⟩:=An (at_:=high+1) (by omega) T.wf (by omega) MR.wf (by omega);refine⟨_,rfl,_,rfl,_,rfl,o2,u2,1,low,rfl,lf TB.r2 N.w (by omega) hl TB.t1,λc1 H8 e _ r8=>?_,λH8 e _=>a H8 (F.trans e)⟩;refine⟨_,rfl,_,_,rfl,rfl,d,_,v,c1,high+1,rfl,pf (TB.r.mono e) r8 T.wf (by omega) MR.wf (by omega) (by omega) (TB.t1.mono e) (TB.t2.mono e),λc2 H9 B _ r9=>?_,λH9 B _=>a H9 (F.trans (e.trans B))⟩;have G:=F.trans (e.trans B);have o:=T.mono G;have RA:=r7.mono (e.trans B);clear r8 r7 e B F TB H8 H7 c1;have hX:=Sm.put (at_:=high) (by omega) T.w1 T.w2 T.d1 T.d2;have e3:cf o2 high (cf o1 low d)=cf (cf o2 high o1) low (cf (dD 1 low 58 o2) (high+1) d):=Pt hl hh u N hX T.wf OC (by omega);obtain⟨m1,m2,_⟩:=An hl p1 (by omega) hX.wf (by have :=hX.dp;omega);refine⟨_,rfl,_,rfl,_,rfl,_,rfl,_,rfl,o1,o2,u1,u2,high,rfl,pf o.r1 o.r2 u.w (by omega) T.w2 (by omega) (by omega) o.t1 o.t2,λf1 HA sa _ ra=>?_,λHA sa _=>a HA (G.trans sa)⟩;refine⟨_,rfl,_,_,c2,f1,low,rfl,pf (r9.mono sa) ra p1 (by omega) hX.wf (by have :=hX.dp;omega) hl (o.t1.mono sa) (o.t2.mono sa),λf2 HB sb _ rb=>?_,λHB sb _=>a HB (G.trans (sa.trans sb))⟩;rw[<-e3]at rb;refine⟨_,b2,f2,rfl,RA.mono (sa.trans sb),rb,jd _ _ (zQ04 _) z1,by omega,λHC sc=>⟨true,rfl,dZ ?_⟩⟩;have I:=G.trans (sa.trans (sb.trans sc));have r:=T.mono I;clear rb ra r9 RA sa sb sc G o HA HB e3 m1 m2 f1 f2;refine⟨_,rfl,_,rfl,_,rfl,d,o1,v,u1,low,rfl,pf r.r r.r1 T.wf (by omega) T.w1 (by omega) hl r.t1 r.t2,λh1 HE x _ re=>?_,λHE x _=>a HE (I.trans x)⟩;refine⟨_,rfl,_,h1,1,high,rfl,lf re U (by omega) (by omega) (r.t1.mono x),λh2 HF R _ rf=>?_,λHF R _=>a HF (I.trans (x.trans R))⟩;have J:=I.trans (x.trans R);have TE:=T.mono J;clear re x R I r HE h1;have PV:Sm (dD 1 high 58 o1):=u.ra (c:=1) (by decide) high;have WB:depth (dD 1 high 58 o1)=depth o1:=(cz (by_:=1) (low:=high) (n:=58) (by decide) (by omega) u.w).2;have e4:dD 1 high 58 (cf o1 low d)=cf (dD 1 high 58 o1) low (dD 1 (high+1) 58 d):=OE hl hh u T.wf OC;obtain⟨k1,k2⟩:Wf (dD 1 high 58 (cf o1 low d))/\depth (dD 1 high 58 (cf o1 low d))=depth (cf o1 low d):=cz (by decide) (by omega) U;refine⟨_,rfl,_,rfl,_,rfl,_,_,rfl,rfl,d,v,1,high+1,rfl,lf TE.r T.wf (by omega) (by omega) TE.t1,λi1 HG sg _ rg=>?_,λHG sg _=>a HG (J.trans sg)⟩;refine⟨_,rfl,_,rfl,o1,u1,1,high,rfl,lf (TE.r1.mono sg) u.w (by omega) (by omega) (TE.t1.mono sg),λi2 HH k _ rh=>?_,λHH k _=>a HH (J.trans (sg.trans k))⟩;refine⟨_,rfl,_,_,i1,i2,low,rfl,pf (rg.mono k) rh (b (high+1)).1 (by rw[(b (high+1)).2];omega) PV.wf (by omega) hl (TE.t1.mono (sg.trans k)) (TE.t2.mono (sg.trans k)),λi3 HI S _ ri=>?_,λHI S _=>a HI (J.trans (sg.trans (k.trans S)))⟩;rw[<-e4]at ri;exact⟨_,h2,i3,rfl,rf.mono (sg.trans (k.trans S)),ri,jd _ _ (zQ04 _) k1,by omega,λHJ sj=>q HJ (J.trans (sg.trans (k.trans (S.trans sj))))⟩
end K17
end
section
namespace L3
open PySem PySem.Spec PyProof.Rows L2 KM
noncomputable abbrev MI(X:Cx)(pins:List (Addr×Obj))(g:Addr->Hp->Prop):Cx:={X with pn:=X.pn++pins,xe:=λe s'=>X.Ok->BX X pins (λC _ H'=>g C H') e s'}
section
variable{X:Cx}{pins kN:List (Addr×Obj)}{g:Addr->Hp->Prop}{σ:L2.St}{H:Hp}{s:Shared}
theorem Ko(ok:X.Ok):(MI X pins g).Ok:=⟨ok.mod,ok.kind,ok.glob,ok.blt,ok.above,ok.inj,ok.has,ok.C7,λz=>sT (ok.hd z) λq hq=>jy _ hq,ok.frames,ok.Gm,ok.GF,ok.bs,ok.uF,ok.mS,ok.nI,ok.eS,ok.zT⟩
theorem Hm(I:Inv X pins σ H s):Inv (MI X pins g) [] σ H s:=⟨Ko I.ok,I.os,I.bare,I.base,I.loc,I.cell,I.free,I.cX,λp a=>I.pin p (by simpa using a),I.bc,I.len⟩
theorem mU(ok:X.Ok)(I:Inv (MI X pins g) kN σ H s):Inv X pins σ H s:=⟨ok,I.os,I.bare,I.base,I.loc,I.cell,I.free,I.cX,λp a=>I.pin p (jy _ a),I.bc,I.len⟩
theorem lQ(f:X.ex=[]):Passes (h_ X.prog X.w) (MI X pins g) (λb _ H'=>∃C,b= .ref C/\g C H'):=λkN σ H s e s' I h ok=>by obtain⟨a,C,T,c,H',rfl,J,F,hc,i,d,q⟩:=zZ (mU ok I) f h;cases d;exact⟨a,C,T,c,σ,H',rfl,J,F,hc,q⟩
theorem G0{body:List Stmt}{t:List (Addr×Obj)->(Addr->Hp->Prop)->TS}(h:∀pins g,fY (MI X pins g) body (t pins g)):PB X body (λD G σ H=>∀pins,t pins (λC H'=>∀b,G C b H') D σ H):=by
 intro pins s σ H D G I q;refine d9 (h pins _ [] s σ H D (Hm I) (q pins)) (λf s1 z=>?_) λe s1 z=>?_;·cases f with|next=>obtain⟨b,H',J,q⟩:=z;exact⟨b,H',mU I.ok J,q⟩|brk=>obtain⟨b,H',J,q⟩:=z;exact⟨b,H',mU I.ok J,q⟩|cont=>obtain⟨b,H',J,q⟩:=z;exact⟨b,H',mU I.ok J,q⟩|ret u=>obtain⟨v,b,H',J,r,q⟩:=z;exact⟨v,b,H',mU I.ok J,r,q⟩
 ·obtain⟨a,C,T,c,b,H',d,J,F,hc,q⟩:=z I.ok;exact⟨a,C,T,c,b,H',d,J,F,hc,q b⟩
end
end L3
end
section
namespace K17
open PySem L2 L3 KM PyProof.Rows
seal L2.PE L2.PS L2.fY L2.PT L2.PW L2.PA L2.PG L2.wN L2.PI L2.PC L2.PO L2.vT L2.PK L3.vW L3.PH L3.PB
variable{P:Program}{w:World}{K:PySem.W.Frag}{mg:Str->Option Value}{base:Heap}{t:uY}
theorem tW(x:Int):∀ws:List Int,JM (.int x) (ws.map V.int)=decide (x∈ws)
 |[]=>rfl
 |y::ws=>by
  have a:=tW x ws;unfold JM at a⊢;rw[eO,List.any_cons,a];show(y==x||decide (x∈ws))=decide (x∈y::ws);by_cases e:y=x;·subst e;simp
  ·have b:¬x=y:=λz=>e z.symm;simp[e,b]
theorem jK:∀ws:List Int,(ws.map V.int).all fC=true|[]=>rfl|y::ws=>by rw[eO,List.all_cons,jK ws];rfl
structure Ek(K:PySem.W.Frag)(t:uY):Prop where
 gr:zk K t.dF
 s1:PySem.W.subIn K (.ref t.dF) (.ref t.dF)=some true
structure G7(H:Hp)(d:D)(v:V):Prop where
 r:Rep H d v
 wf:Wf d
 dp:depth d<=45
 kn:aB d<=9765625
theorem G7.mono{H H':Hp}{d:D}{v:V}(g:G7 H d v)(s:aK H H'):G7 H' d v:=⟨g.r.mono s,g.wf,g.dp,g.kn⟩
structure G4(H:Hp)(d:D)(v:V):Prop where
 r:Rep H d v
 wf:bf av false d=true
 dp:depth d<=4
theorem G4.mono{H H':Hp}{d:D}{v:V}(g:G4 H d v)(s:aK H H'):G4 H' d v:=⟨g.r.mono s,g.wf,g.dp⟩
def xP(K:PySem.W.Frag)(T1 T2:Addr):Sp:=λvs H Q _=>∃(a:Addr)(ns:List Int),vs=[.ref a]/\bO K H a (ns.map V.int)/\dU H T1 kQ kW/\dU H T2 kH jX/\∀H',Q (.bl true) H'
theorem fe:aP ["_law_script","_law_want","_law_thing","_law_one","_law_other","_law_low","_law_high","_law_up"] ["_law_script"] (ao xK):=⟨rfl,rfl,rfl,by decide+kernel,rfl,by decide+kernel,by decide+kernel⟩
theorem LA{f T1 T2:Addr}{fd:FuncData}(F:yO K "law" "law" xK f fd)(M:Mg mg t)(X:Ek K t)(n:bZ P w K mg bW "_law_cell_at" (1) ["_law_script","_law_k"] (vz K))(W:bZ P w K mg bW "_law_state" (1) ["_law_cell","_law_most"] oO)(U:bZ P w K mg bW "_law_grown" (12) ["_law_state_here","_law_want","_law_left"] (lA 10))(vn:bZ P w K mg bW "_law_deep" (1) ["_law_cell"] Az)(cq:bZ P w K mg bW "_law_alike" (60) ["_law_told","_law_due"] (i7 60))(cL:bZ P w K mg (h_ P w) "lifted" (64) ["thing","by","low"] (mm t.dF T1 58))(c7:bZ P w K mg (h_ P w) "put_in" (126) ["thing","other","at"] (pA t.dF T1 T2))(yk:bZ P w K mg bW "free_in" (140) ["thing"] (KL 60))(sm:bZ P w K mg (h_ P w) "_law_twice" (130) ["_law_thing","_law_one","_law_other","_law_low","_law_high"] (wq t.dF T1 T2)):g8 P w K mg base bW 201 f fd ["_law_script"] (xP K T1 T2):=by
 refine F.ok fe (λvs H Q E h=>?_) (λcS A outer s H vs Q E hr h=>?_);·obtain⟨a,ns,rfl,_⟩:=h;rfl
 obtain⟨a,ns,rfl,hS,Vi,VB,q⟩:=h;have hu:=Cb hr;have hh:=hr.hd (by decide);have rL:=X.gr;refine⟨_,(d7 (aM (i:=1) fe.nd rfl (eN rfl) (bY dy (cD (aa ai (aa ai af))) (aD bU (aH n hr.m rfl aX (aa (pv 0) (aa ag af))) ag) (λ_ _=>rfl))) (d7 (aM (i:=2) fe.nd rfl (eN rfl) (aH U hr.m rfl aX (aa (aH W hr.m rfl aX (aa (aH n hr.m rfl aX (aa (pv 0) (aa ag af))) (aa ag af))) (aa (pv 1) (aa ag af))))) (d7 (bH (aN ck (aD bU (aD cB (aH n hr.m rfl aX (aa (pv 0) (aa ag af))) ag) ag) ag (aS _)) (aq (aM (i:=2) fe.nd rfl (eN rfl) (aH vn hr.m rfl aX (aa (aH n hr.m rfl aX (aa (pv 0) (aa ag af))) af)))) aY) (d7 (aM (i:=3) fe.nd rfl (eN rfl) (aH U hr.m rfl aX (aa (aH W hr.m rfl aX (aa (aH n hr.m rfl aX (aa (pv 0) (aa ag af))) (aa ag af))) (aa ai (aa ag af))))) (d7 (aM (i:=4) fe.nd rfl (eN rfl) (aH U hr.m rfl aX (aa (aH W hr.m rfl aX (aa (aH n hr.m rfl aX (aa (pv 0) (aa ag af))) (aa ag af))) (aa ai (aa ag af))))) (d7 (aM (i:=5) fe.nd rfl (eN rfl) (aD bU (aH n hr.m rfl aX (aa (pv 0) (aa ag af))) ag)) (d7 (aM (i:=6) fe.nd rfl (eN rfl) (aD b9 (pv 5) (aD bU (aH n hr.m rfl aX (aa (pv 0) (aa ag af))) (aD jB ag (pv 5))))) (aq (Hg rfl rfl rfl (G0 λpins g=>(ar (aM (i:=7) fe.nd rfl (eN rfl) (aH cL hr.m rfl (lQ rfl) (aa (pv 2) (aa ag (aa (pv 5) af))))) (ar (bH (L2.PW.pt (uw (aN ze (pv 5) (aH yk hr.m rfl aX (aa (pv 7) af)) rfl) (mE (ma (gb (aH cq hr.m rfl aX (aa (aH c7 hr.m rfl (lQ rfl) (aa (pv 7) (aa (pv 3) (aa (pv 5) af)))) (aa (pv 2) af)))))))) (aq (aF nX)) aY) (aq (aF (aH sm hr.m rfl (lQ rfl) (aa (pv 2) (aa (pv 3) (aa (pv 4) (aa (pv 5) (aa (pv 6) af))))))))))) (En true rL M.g_Great rfl (λ_=>hh) (λa C oe Wl=>(aq (aF nX))) HY)))))))))),?_⟩;try dsimp only[r_,gG]
 refine⟨λe H'=>∃k:Bool,e=[some (.ref a),some (.str (fE k)),none,none,none,none,none,none]/\aK H H',?_,?_⟩
 ·refine⟨by show 2<=sizeLine;decide,λp1 zR=>?_⟩;have t1:=ah zR (.lst [V.str "t", .str "k"]);obtain⟨v1,TU,hm⟩:=EO (xs:=[V.str "t", .str "k"]) (m:=2) (f7 ns 1) (by simp) (by decide);refine⟨_,rfl,a,ns,1,rfl,t1.seq hS,_,_,rfl,rfl,by show(0:Int)<2;decide,p1,_,_,_,rfl,rfl,bO.of aj,TU,?_⟩;simp only[List.mem_cons,List.not_mem_nil,or_false]at hm;rcases hm with rfl|rfl;·exact⟨false,rfl,t1⟩
  ·exact⟨true,rfl,t1⟩
 rintro e D⟨k,rfl,s1⟩;refine⟨λe H'=>∃(d:KM.D)(v:V),e=[some (.ref a),some (.str (fE k)),some v,none,none,none,none,none]/\G7 H' d v/\aK H H',?_,?_⟩;·refine⟨_,rfl,a,ns,0,rfl,s1.seq hS,f7 ns 0,40,rfl,by decide,λp r y B I h1 h2=>?_⟩;have J:=ah B (.lst [V.int r, .int y]);refine⟨_,rfl,p,r,y,k,7,rfl,aj,I,h1,by decide,by decide,by decide,λd v L a' b' r2 w2 d2 Z _ _ _ s2=>?_⟩;exact⟨d,v,rfl,⟨r2,⟨k,w2⟩,by omega,cu Z (by decide)⟩,λb o hb=>s2 _ _ (aA (s1 _ _ hb) B) (J _ _ (s1 _ _ hb))⟩
 clear s1 D;rintro e D⟨d,v,rfl,N,s1⟩;refine⟨λe H'=>∃(d:KM.D)(v:V),e=[some (.ref a),some (.str (fE k)),some v,none,none,none,none,none]/\G7 H' d v/\aK H H',?_,?_⟩;·refine⟨_,rfl,a,ns,1,rfl,s1.seq hS,_,_,rfl,rfl,⟨by decide,by decide⟩,_,_,rfl,rfl,by show(0:Int)<6;decide,rfl,_,rfl,?_⟩;refine dg (λc=>?_) (λc=>⟨d,v,rfl,N,s1⟩);refine⟨_,rfl,a,ns,0,rfl,s1.seq hS,_,rfl,λd' v' H' s' r' t'=>⟨d',v',rfl,⟨r',⟨_,t'.wf⟩,t'.dp,cu t'.kn (by decide)⟩,s1.trans s'⟩⟩
 clear N s1 d v D;rintro e D⟨d,v,rfl,N,s1⟩;refine⟨λe H'=>∃(o:KM.D)(u:V),e=[some (.ref a),some (.str (fE k)),some v,some u,none,none,none,none]/\G4 H' o u/\aK D H',?_,?_⟩;·refine⟨_,rfl,a,ns,2,rfl,s1.seq hS,f7 ns 2,12,rfl,by decide,λp r y B I h1 h2=>?_⟩;have J:=ah B (.lst [V.int r, .int y]);refine⟨p,r,y,false,4,rfl,aj,I,h1,by decide,by decide,by decide,λo u L a' b' r2 w2 d2 Z _ _ _ s2=>?_⟩;exact⟨o,u,rfl,⟨r2,w2,by omega⟩,λb x hb=>s2 _ _ (aA hb B) (J _ _ hb)⟩
 rintro e L⟨o1,u1,rfl,p1,s2⟩;refine⟨λe H'=>∃(o:KM.D)(u:V),e=[some (.ref a),some (.str (fE k)),some v,some u1,some u,none,none,none]/\G4 H' o u/\aK L H',?_,?_⟩;·refine⟨_,rfl,a,ns,3,rfl,(s1.trans s2).seq hS,f7 ns 3,12,rfl,by decide,λp r y B I h1 h2=>?_⟩;have J:=ah B (.lst [V.int r, .int y]);refine⟨p,r,y,false,4,rfl,aj,I,h1,by decide,by decide,by decide,λo u L a' b' r2 w2 d2 Z _ _ _ s2=>?_⟩;exact⟨o,u,rfl,⟨r2,w2,by omega⟩,λb x hb=>s2 _ _ (aA hb B) (J _ _ hb)⟩
 rintro e Y⟨o2,u2,rfl,p2,s3⟩;have R:=s1.trans (s2.trans s3);refine⟨λe H'=>∃l:Int,e=[some (.ref a),some (.str (fE k)),some v,some u1,some u2,some (.int l),none,none]/\0<=l/\l<5/\H'=Y,?_,?_⟩;·refine⟨_,rfl,a,ns,4,rfl,R.seq hS,_,_,rfl,rfl,by show(0:Int)<5;decide,_,rfl,Int.emod_nonneg _ (by decide),Int.emod_lt_of_pos _ (by decide),rfl⟩
 rintro e H'⟨l,rfl,l0,l5,rfl⟩;refine⟨λe U_=>∃h:Int,e=[some (.ref a),some (.str (fE k)),some v,some u1,some u2,some (.int l),some (.int h),none]/\l<=h/\U_=H',?_,?_⟩;·refine⟨_,rfl,_,rfl,a,ns,5,rfl,R.seq hS,_,rfl,_,_,rfl,rfl,_,_,rfl,rfl,by show(0:Int)<5-l;omega,_,_,rfl,rfl,_,rfl,?_,rfl⟩;have :=Int.emod_nonneg (f7 ns 5) (show(5-l:Int)≠0 by omega);show l<=l+f7 ns 5%(5-l);omega
 rintro e Y⟨h,rfl,VR,rfl⟩;have j:=N.mono (s2.trans s3);have OD:=p1.mono s3;have RS:=Vi.mono R;have Ou:=VB.mono R;have OC:=j.dp;have T:Tw Y T1 T2 d o1 o2 v u1 u2 l h:=⟨j.r,OD.r,p2.r,j.wf,j.dp,OD.wf,p2.wf,OD.dp,p2.dp,l0,VR,RS,Ou⟩;obtain⟨x1,x2⟩:Wf (dD 1 l 58 d)/\depth (dD 1 l 58 d)=depth d:=cz (by decide) (by omega) j.wf;intro pins;refine⟨_,rfl,_,rfl,d,v,1,l,rfl,lf T.r T.wf (by omega) l0 RS,λup H4 s4 g4 r4=>?_,λH4 s4 _=>⟨_,rfl,λNA a1 GS=>⟨true,X.s1,iI (q _)⟩⟩⟩;obtain⟨O,S⟩:=x1;have QD:eP (dD 1 l 58 d)=false:=(Bool.or_eq_false_iff.mp g4).2;have TF:aB (dD 1 l 58 d)<=9765625:=by obtain⟨k0,w0⟩:=j.wf;rw[(dr (by_:=1) (low:=l) (by decide) 58 0 d k0 (Int.le_refl 0) (by omega) w0).2.1];exact j.kn
 have GW:=w4 60 0 _ O S;have Vu:=zU 60 0 _ O (Int.le_refl 0) S QD;have Q2:l∉dC 60 0 (dD 1 l 58 d):=xB 60 58 0 d (Int.le_refl 0) j.wf (by omega);refine⟨_,rfl,_,rfl,_,up,rfl,r4,⟨O,S⟩,by omega,by omega,λz hz=>by have :=Vu z hz;omega,λp zs H5 Vf s5 hlt OK h5=>?_⟩;refine⟨p,_,rfl, .inl (bO.of h5),rfl,jK zs,?_⟩;refine⟨false,?_,dZ ?_⟩;·show V.bl (JM (.int l) (zs.map V.int))=V.bl false;rw[tW,decide_eq_false (λz=>Q2 ((OK l).mp z))]
 have VU:=s4.trans s5;have G:=T.mono VU;have e1:cf o1 l (dD 1 l 58 d)=d:=Bq l0 j.wf (by omega);refine⟨_,rfl,_,rfl,_,rfl,_,o1,up,u1,l,rfl,pf (r4.mono s5) G.r1 ⟨O,S⟩ (by omega) T.w1 (by have :=T.d1;omega) l0 G.t1 G.t2,λz H6 s6 _ r6=>?_,λH6 s6 _=>⟨_,rfl,λNA a1 GS=>⟨true,X.s1,iI (q _)⟩⟩⟩;rw[e1]at r6;refine⟨_,rfl,d,z,v,rfl,r6,G.r.mono s6,jd _ _ (zQ04 _) j.wf,by omega,λH7 s7=>⟨true,rfl,dZ ?_⟩⟩;have T7:=G.mono (s6.trans s7);exact⟨_,rfl,_,rfl,_,rfl,_,rfl,_,rfl,d,o1,o2,v,u1,u2,l,h,rfl,T7,λH8 _=>q H8,λH8 _=>⟨_,rfl,λNA a1 GS=>⟨true,X.s1,iI (q _)⟩⟩⟩
end K17
end
section
namespace K17
open PySem L2 L3 KM
structure Txt(K:PySem.W.Frag)(mg:Str->Option Value)(t:uY):Prop where
 M:Mg mg t
 y0:Df K mg "is_vast" eT ["value"]
 yY:Df K mg "kids_of" gA ["thing"]
 vq:Df K mg "binds_of" eG ["thing"]
 gg:Df K mg "top_variable" bS ["thing"]
 nN:Df K mg "bounded" gC ["thing"]
 yP:Df K mg "rebuilt" gy ["thing","kids"]
 l9:Df K mg "numbers_free" cj ["thing","binders"]
 zm:Df K mg "free_in" gB ["thing"]
 j4:Df K mg "with_free" cU ["thing","binders","change"]
 A6:Df K mg "raised" gs ["thing","by","low"]
 Bg:Df K mg "lifted" iW ["thing","by","low"]
 Aj:Df K mg "put_in" gf ["thing","other","at"]
 nC:Df K mg "_law_cell_at" cH ["_law_script","_law_k"]
 u_:Df K mg "_law_next" eD ["_law_state_here"]
 tV:Df K mg "_law_state" dG ["_law_cell","_law_most"]
 sI:Df K mg "_law_shape" dO ["_law_word"]
 vo:Df K mg "_law_name" eF ["_law_number"]
 sS:Df K mg "_law_grown" dE ["_law_state_here","_law_want","_law_left"]
 sV:Df K mg "_law_alike" cW ["_law_told","_law_due"]
 tK:Df K mg "_law_twice" eL ["_law_thing","_law_one","_law_other","_law_low","_law_high"]
 vg:Df K mg "_law_deep" fz ["_law_cell"]
 LR:Df K mg "law" xK ["_law_script"]
 u4:∃as,KD K t.lK [("nat",[]),("none",[]),("all",[.str "kind", .str "kind"]),("some",[.str "kind", .str "kind"]),("same",[.str "kind", .str "term", .str "term"]),("var",[]),("fun",[.str "kind", .str "term"]),("app",[.str "term", .str "term"]),("zero",[]),("next",[.str "term"]),("rec",[.str "kind", .str "term", .str "term", .str "term"]),("like",[.str "kind", .str "term"]),("carry",[.str "kind", .str "term", .str "term"]),("never",[.str "kind", .str "term"]),("pair",[.str "kind", .str "term", .str "term"]),("first",[.str "term"]),("second",[.str "term"]),("name",[])] as
 nJ:mZ K t.fP [("all", .int 1),("some", .int 1),("fun", .int 1),("rec", .int 0),("carry", .int 0)]
 X:Ek K t
theorem txt_mk{K:PySem.W.Frag}{h:Heap}{mg:Str->Option Value}(X:K.In h)(G:h.Ns mainGlobals mg){nD:Tok}{pT:Tok}{jM:Tok}{c:Addr}{d:Array DictEntry}{tU:Nat}{e o p q r s u v w x f g i j k l m n:Addr}{pB:Option Addr}{I:Array Value}{rB:Nat}{ql:Array (Option Value)}{pZ:Option Addr}{H:Array Value}{qH:Nat}{rn:Array (Option Value)}{qo:Option Addr}{F:Array Value}{p_:Nat}{oM:Array (Option Value)}{Z:Option Addr}{E:Array Value}{rA:Nat}{oX:Array (Option Value)}{Y:Option Addr}{D:Array Value}{qv:Nat}{qG:Array (Option Value)}{W:Option Addr}{C:Array Value}{rD:Nat}{qz:Array (Option Value)}{V:Option Addr}{B:Array Value}{o9:Nat}{qE:Array (Option Value)}{U:Option Addr}{A:Array Value}{rJ:Nat}{qm:Array (Option Value)}{tI:Option Addr}{S:Array Value}{ux:Nat}{uy:Array (Option Value)}{tu:Option Addr}{R:Array Value}{ur:Nat}{sY:Array (Option Value)}{s_:Option Addr}{Q:Array Value}{sF:Nat}{uH:Array (Option Value)}{sN:Option Addr}{P:Array Value}{sW:Nat}{uk:Array (Option Value)}{uo:Option Addr}{O:Array Value}{sO:Nat}{tL:Array (Option Value)}{uh:Option Addr}{N:Array Value}{tq:Nat}{sJ:Array (Option Value)}{uj:Option Addr}{M:Array Value}{tM:Nat}{tS:Array (Option Value)}{t_:Option Addr}{L:Array Value}{tR:Nat}{tX:Array (Option Value)}{uG:Option Addr}{J:Array Value}{sH:Nat}{ud:Array (Option Value)}{T:Option Addr}{z:Array Value}{sk:Nat}{uI:Array (Option Value)}{b:Addr}{y:Array DictEntry}{lG:Nat}{a:Addr}(a0:dS K "is_vast" eT)(a1:dS K "kids_of" gA)(a2:dS K "binds_of" eG)(a3:dS K "top_variable" bS)(a4:dS K "bounded" gC)(a5:dS K "rebuilt" gy)(a6:dS K "numbers_free" cj)(a7:dS K "free_in" gB)(a8:dS K "with_free" cU)(a9:dS K "raised" gs)(a10:dS K "lifted" iW)(a11:dS K "put_in" gf)(a12:dS K "_law_cell_at" cH)(a13:dS K "_law_next" eD)(a14:dS K "_law_state" dG)(a15:dS K "_law_shape" dO)(a16:dS K "_law_name" eF)(a17:dS K "_law_grown" dE)(a18:dS K "_law_alike" cW)(a19:dS K "_law_twice" eL)(a20:dS K "_law_deep" fz)(a21:dS K "law" xK)(z_bool:PySem.W.nsIn K mainGlobals "bool"=some none)(z_int:PySem.W.nsIn K mainGlobals "int"=some none)(z_isinstance:PySem.W.nsIn K mainGlobals "isinstance"=some none)(z_len:PySem.W.nsIn K mainGlobals "len"=some none)(z_list:PySem.W.nsIn K mainGlobals "list"=some none)(z_max:PySem.W.nsIn K mainGlobals "max"=some none)(z_range:PySem.W.nsIn K mainGlobals "range"=some none)(z_set:PySem.W.nsIn K mainGlobals "set"=some none)(z_sorted:PySem.W.nsIn K mainGlobals "sorted"=some none)(z_tuple:PySem.W.nsIn K mainGlobals "tuple"=some none)(z_zip:PySem.W.nsIn K mainGlobals "zip"=some none)(g_MOST_KNOTS:PySem.W.nsIn K mainGlobals "MOST_KNOTS"=some (some (.int 600 nD)))(g_MOST_DEEP:PySem.W.nsIn K mainGlobals "MOST_DEEP"=some (some (.int 40 pT)))(g_MOST_VARIABLE:PySem.W.nsIn K mainGlobals "MOST_VARIABLE"=some (some (.int 99 jM)))(g_KIDS_DUE:PySem.W.nsIn K mainGlobals "KIDS_DUE"=some (some (.ref c)))(lk_KIDS_DUE:K.lookup c=some ⟨.type "dict",none, .dict d tU,#[]⟩)(sy_KIDS_DUE:(c==sysModules)=false)(ks_KIDS_DUE:fb d.toList ["nat","none","all","some","same","var","fun","app","zero","next","rec","like","carry","never","pair","first","second","name"]=true)(rf_KIDS_DUE:refsOf d.toList=[e,o,p,q,r,s,u,v,w,x,f,g,i,j,k,l,m,n])(u0_KIDS_DUE:K.lookup e=some ⟨.type "tuple",T, .seq z sk,uI⟩)(v0_KIDS_DUE:bQ [] z=true)(u1_KIDS_DUE:K.lookup o=some ⟨.type "tuple",uG, .seq J sH,ud⟩)(v1_KIDS_DUE:bQ [] J=true)(u2_KIDS_DUE:K.lookup p=some ⟨.type "tuple",t_, .seq L tR,tX⟩)(v2_KIDS_DUE:bQ [.str "kind", .str "kind"] L=true)(u3_KIDS_DUE:K.lookup q=some ⟨.type "tuple",uj, .seq M tM,tS⟩)(v3_KIDS_DUE:bQ [.str "kind", .str "kind"] M=true)(u4_KIDS_DUE:K.lookup r=some ⟨.type "tuple",uh, .seq N tq,sJ⟩)(v4_KIDS_DUE:bQ [.str "kind", .str "term", .str "term"] N=true)(u5_KIDS_DUE:K.lookup s=some ⟨.type "tuple",uo, .seq O sO,tL⟩)(v5_KIDS_DUE:bQ [] O=true)(u6_KIDS_DUE:K.lookup u=some ⟨.type "tuple",sN, .seq P sW,uk⟩)(v6_KIDS_DUE:bQ [.str "kind", .str "term"] P=true)(u7_KIDS_DUE:K.lookup v=some ⟨.type "tuple",s_, .seq Q sF,uH⟩)(v7_KIDS_DUE:bQ [.str "term", .str "term"] Q=true)(u8_KIDS_DUE:K.lookup w=some ⟨.type "tuple",tu, .seq R ur,sY⟩)(v8_KIDS_DUE:bQ [] R=true)(u9_KIDS_DUE:K.lookup x=some ⟨.type "tuple",tI, .seq S ux,uy⟩)(v9_KIDS_DUE:bQ [.str "term"] S=true)(u10_KIDS_DUE:K.lookup f=some ⟨.type "tuple",U, .seq A rJ,qm⟩)(v10_KIDS_DUE:bQ [.str "kind", .str "term", .str "term", .str "term"] A=true)(u11_KIDS_DUE:K.lookup g=some ⟨.type "tuple",V, .seq B o9,qE⟩)(v11_KIDS_DUE:bQ [.str "kind", .str "term"] B=true)(u12_KIDS_DUE:K.lookup i=some ⟨.type "tuple",W, .seq C rD,qz⟩)(v12_KIDS_DUE:bQ [.str "kind", .str "term", .str "term"] C=true)(u13_KIDS_DUE:K.lookup j=some ⟨.type "tuple",Y, .seq D qv,qG⟩)(v13_KIDS_DUE:bQ [.str "kind", .str "term"] D=true)(u14_KIDS_DUE:K.lookup k=some ⟨.type "tuple",Z, .seq E rA,oX⟩)(v14_KIDS_DUE:bQ [.str "kind", .str "term", .str "term"] E=true)(u15_KIDS_DUE:K.lookup l=some ⟨.type "tuple",qo, .seq F p_,oM⟩)(v15_KIDS_DUE:bQ [.str "term"] F=true)(u16_KIDS_DUE:K.lookup m=some ⟨.type "tuple",pZ, .seq H qH,rn⟩)(v16_KIDS_DUE:bQ [.str "term"] H=true)(u17_KIDS_DUE:K.lookup n=some ⟨.type "tuple",pB, .seq I rB,ql⟩)(v17_KIDS_DUE:bQ [] I=true)(g_BINDER_OVER:PySem.W.nsIn K mainGlobals "BINDER_OVER"=some (some (.ref b)))(lk_BINDER_OVER:K.lookup b=some ⟨.type "dict",none, .dict y lG,#[]⟩)(sy_BINDER_OVER:(b==sysModules)=false)(vs_BINDER_OVER:fg y.toList [("all",1),("some",1),("fun",1),("rec",0),("carry",0)]=true)(g_Great:PySem.W.nsIn K mainGlobals "Great"=some (some (.ref a)))(x_gr:PySem.W.excIn K a [.type "ValueError", .type "Exception", .type "BaseException", .type "object"] "ValueError.__new__"=true)(x_s1:PySem.W.subIn K (.ref a) (.ref a)=some true):∃t,Txt K mg t:=⟨⟨(),c,b,a⟩,⟨⟨PySem.W.mg_none_of X G z_bool,PySem.W.mg_none_of X G z_int,PySem.W.mg_none_of X G z_isinstance,PySem.W.mg_none_of X G z_len,PySem.W.mg_none_of X G z_list,PySem.W.mg_none_of X G z_max,PySem.W.mg_none_of X G z_range,PySem.W.mg_none_of X G z_set,PySem.W.mg_none_of X G z_sorted,PySem.W.mg_none_of X G z_tuple,PySem.W.mg_none_of X G z_zip,⟨_,PySem.W.mg_of X G g_MOST_KNOTS⟩,⟨_,PySem.W.mg_of X G g_MOST_DEEP⟩,⟨_,PySem.W.mg_of X G g_MOST_VARIABLE⟩,PySem.W.mg_of X G g_KIDS_DUE,PySem.W.mg_of X G g_BINDER_OVER,PySem.W.mg_of X G g_Great⟩,a0.df X G λ_ _ _ _ _ _=>lu (λ_=>rfl),a1.df X G λ_ _ _ _ _ _=>lu (λ_=>rfl),a2.df X G λ_ _ _ _ _ _=>lu (λ_=>rfl),a3.df X G λ_ _ _ _ _ _=>lu (λ_=>rfl),a4.df X G λ_ _ _ _ _ _=>lu (λ_=>rfl),a5.df X G λ_ _ _ _ _ _=>EB (λ_ _=>rfl),a6.df X G λ_ _ _ _ _ _=>EB (λ_ _=>rfl),a7.df X G λ_ _ _ _ _ _=>lu (λ_=>rfl),a8.df X G λ_ _ _ _ _ _=>J6 (λ_ _ _=>rfl),a9.df X G λ_ _ _ _ _ _=>J6 (λ_ _ _=>rfl),a10.df X G λ_ _ _ _ _ _=>J6 (λ_ _ _=>rfl),a11.df X G λ_ _ _ _ _ _=>J6 (λ_ _ _=>rfl),a12.df X G λ_ _ _ _ _ _=>EB (λ_ _=>rfl),a13.df X G λ_ _ _ _ _ _=>lu (λ_=>rfl),a14.df X G λ_ _ _ _ _ _=>EB (λ_ _=>rfl),a15.df X G λ_ _ _ _ _ _=>lu (λ_=>rfl),a16.df X G λ_ _ _ _ _ _=>lu (λ_=>rfl),a17.df X G λ_ _ _ _ _ _=>J6 (λ_ _ _=>rfl),a18.df X G λ_ _ _ _ _ _=>EB (λ_ _=>rfl),a19.df X G λ_ _ _ _ _ _=>T8 (λ_ _ _ _ _=>rfl),a20.df X G λ_ _ _ _ _ _=>lu (λ_=>rfl),a21.df X G λ_ _ _ _ _ _=>lu (λ_=>rfl),⟨_,Mx sy_KIDS_DUE lk_KIDS_DUE ks_KIDS_DUE rf_KIDS_DUE rfl (bE (b_ u0_KIDS_DUE v0_KIDS_DUE) (bE (b_ u1_KIDS_DUE v1_KIDS_DUE) (bE (b_ u2_KIDS_DUE v2_KIDS_DUE) (bE (b_ u3_KIDS_DUE v3_KIDS_DUE) (bE (b_ u4_KIDS_DUE v4_KIDS_DUE) (bE (b_ u5_KIDS_DUE v5_KIDS_DUE) (bE (b_ u6_KIDS_DUE v6_KIDS_DUE) (bE (b_ u7_KIDS_DUE v7_KIDS_DUE) (bE (b_ u8_KIDS_DUE v8_KIDS_DUE) (bE (b_ u9_KIDS_DUE v9_KIDS_DUE) (bE (b_ u10_KIDS_DUE v10_KIDS_DUE) (bE (b_ u11_KIDS_DUE v11_KIDS_DUE) (bE (b_ u12_KIDS_DUE v12_KIDS_DUE) (bE (b_ u13_KIDS_DUE v13_KIDS_DUE) (bE (b_ u14_KIDS_DUE v14_KIDS_DUE) (bE (b_ u15_KIDS_DUE v15_KIDS_DUE) (bE (b_ u16_KIDS_DUE v16_KIDS_DUE) (bE (b_ u17_KIDS_DUE v17_KIDS_DUE) Iy))))))))))))))))))⟩,Dg sy_BINDER_OVER lk_BINDER_OVER vs_BINDER_OVER,⟨⟨_,_,_,PySem.F.excBase_ValueError,x_gr⟩,x_s1⟩⟩⟩
theorem fin{l:PySem.W.OpenLaw}{w:World}{K:PySem.W.Frag}{mg:Str->Option Value}{t:uY}{fa c1 T1 c2 T2:Addr}{h:Heap}(KX:K.In h)(G:h.Ns mainGlobals mg)(h1:PySem.W.tabIn K "raised"=some (c1,T1))(h2:PySem.W.codeHdIn K c1 T1=true)(h3:PySem.W.tabIn K "put_in"=some (c2,T2))(h4:PySem.W.codeHdIn K c2 T2=true)(T:Txt K mg t)(x:mg "law"=some (.ref fa)):∃fd:FuncData,(∀(s:Shared)(v:Value),BindsTo s fd ⟨[v],[]⟩ [("_law_script",v)])/\∀base:Heap,g8 l.prog w K mg base bW 201 fa fd ["_law_script"] (xP K T1 T2):=by
 obtain⟨f,fd,F,m,b⟩:=T.LR;have e:=x.symm.trans m;cases e;refine⟨fd,?_,λbase=>?_⟩;·obtain⟨oc,od,kV,doc,pm,an,cS,ct,uJ,rfl,M,L⟩:=F.ex;exactλs v=> .of_eq rfl
 obtain⟨as,o⟩:=T.u4;have c1:=GR (P:=l.prog) (w:=w) T.nC T.M;have c2:=Ip (P:=l.prog) (w:=w) T.u_;have p:=EN (P:=l.prog) (w:=w) T.tV;have q:=Dk (P:=l.prog) (w:=w) T.sI;have r:=Jk (P:=l.prog) (w:=w) T.vo;have u:=x6 T.sS T.M c2 r q 10;have d:=j9 (P:=l.prog) (w:=w) T.sV T.M 60;have y:=vR (P:=l.prog) (w:=w) T.vg T.M;have a:=yT (P:=l.prog) (w:=w) T.yY T.M;have c:=uP (P:=l.prog) (w:=w) T.vq T.M o T.nJ;have z:=eC T.gg T.M a 58;have B:=eC T.gg T.M a 100;have g:=yU (P:=l.prog) (w:=w) T.y0 T.M;have A:=oA T.nN T.M T.X.gr g z;have C:=oA T.nN T.M T.X.gr g B;have i:=zq (P:=l.prog) (w:=w) T.yP T.M;have D:=fW (kc:=1) T.j4 T.M a c i 58;have j:=Cy (Cu T.A6 KX G h1 h2) T.M D;have E:=fW (kc:=64) T.j4 T.M a c i 58;have k:=BU (Cu T.Aj KX G h3 h4) T.M j E C;have n:=Bh T.Bg T.M j A;have H:=fR T.l9 T.M a c 60;have I:=yn T.zm T.M H;have J:=ua T.tK T.M n k d;exact LA F T.M T.X c1 p u y d n k I J
theorem walk{l:PySem.W.OpenLaw}{q:Program}{loose:List Str}{XP:(Str->Option Value)->Heap->Prop}{YP:World->Heap->Prop}{d:DefRec}{K:Params->PySem.W.Frag}{c1 T1 c2 T2:Addr}(hn:l.most=some 63)(g:d.params.defaults=[])(e:∀(w:World)(h:Heap),YP w h->(K w.params).In h)(h2:∀w:World,PySem.W.codeHdIn (K w.params) c1 T1=true)(h3:∀w:World,(K w.params).lookup T1=none)(h4:∀(w:World)(h:Heap),YP w h->h.get? T1=some (PySem.W.tabObj #[]))(h5:∀w:World,PySem.W.codeHdIn (K w.params) c2 T2=true)(h6:∀w:World,(K w.params).lookup T2=none)(c:∀(w:World)(h:Heap),YP w h->h.get? T2=some (PySem.W.tabObj #[]))(hne:T1≠T2)(F:∀(w:World)(mg:Str->Option Value)(fa:Addr)(h:Heap),(K w.params).In h->h.Ns mainGlobals mg->mg d.name=some (.ref fa)->∃fd:FuncData,(∀(s:Shared)(u:Value),BindsTo s fd ⟨[u],[]⟩ [("_law_script",u)])/\∀base:Heap,g8 l.prog w (K w.params) mg base bW 201 fa fd ["_law_script"] (xP (K w.params) T1 T2)):PySem.W.WalkO q loose XP YP l.row.toRowW d [] (λf vs=>PySem.call f vs):=by
 refine Bm (ts:=[(c1,T1, .tab kQ (rawInt kW.line) (rawInt kW.col)),(c2,T2, .tab kH (rawInt jX.line) (rawInt jX.col))]) (n:=63) (k:=201) (x:="_law_script") (sp:=λw=>xP (K w.params) T1 T2) hn (by decide) g ⟨by decide,by decide,λ_=>rfl⟩ e (λw h Y=>⟨λq hq=>?_,λq hq=>?_,λq hq=>?_,λq hq=>?_⟩) F λw H a ns hl b hS=>⟨a,ns,rfl,hS,b (c1,T1, .tab kQ (rawInt kW.line) (rawInt kW.col)) (by simp) (by simp[List.lookup]),b (c2,T2, .tab kH (rawInt jX.line) (rawInt jX.col)) (by simp) ?_,λ_=>rfl⟩
 ·rcases List.mem_cons.mp hq with rfl|hq;·exact h4 w h Y
  ·obtain rfl:=List.mem_singleton.mp hq;exact c w h Y
 ·rcases List.mem_cons.mp hq with rfl|hq;·exact h2 w
  ·obtain rfl:=List.mem_singleton.mp hq;exact h5 w
 ·rcases List.mem_cons.mp hq with rfl|hq;·exact h3 w
  ·obtain rfl:=List.mem_singleton.mp hq;exact h6 w
 ·rcases List.mem_cons.mp hq with rfl|hq;·exact⟨_,_,_,rfl⟩
  ·obtain rfl:=List.mem_singleton.mp hq;exact⟨_,_,_,rfl⟩
 ·have :(T2==T1)=false:=by simpa usingλz:T2=T1=>hne z.symm
  simp[List.lookup,this]
end K17
end
section
namespace HD
open PySem PySem.W PySem.Calls PyProof.Rows
noncomputable def qN{a:Type}:List a->List a×List a|[]=>([],[])|x::r=>(x::(qN r).2,(qN r).1)
noncomputable def Jr:Nat->List Obj->BT|0,_=> .nil|_+1,[]=> .nil|n+1,x::r=> .node x (Jr n (qN r).1) (Jr n (qN r).2)
noncomputable def UE(l:List Obj):BT:=Jr 14 l
noncomputable def i(n:Nat):Value:= .int (.ofNat n) 0
noncomputable def view(p:Program)(l:List Stmt):Program:={p with main:={p.main with body:=l}}
noncomputable abbrev ik(a:Type):Type:=World->(OsState->a)×(OsState->a)
def Ok{a:Type}(q:ik a):Prop:=∀w,(q w).1=(q w).2
theorem lu{b:Type}{q a:ik b}(e:q=a)(h:∀w,(a w).1=(a w).2):Ok q:=by subst e;exact h
theorem EB{f:Type}{q a b:ik f}(r:String)(c:(λw=>q (w.withFollow r false))=a)(d:(λw=>q (w.withFollow r true))=b)(e:∀w,(a w).1=(a w).2)(ht:∀w,(b w).1=(b w).2):Ok q:=by subst c d;exactλw=>byRow2 r (P:=λw=>(q w).1=(q w).2) e ht w
section
variable(p:Program)(m:Nat)(ann:Option Value)
noncomputable def pre(n:Nat)(S a:World->OsState->Shared)(t t':Thread):ik (Option (Shared×Thread)):=λw=>(λos=>topGo treeTable p w m ann n (S w os) t,λos=>some (a w os,t'))
noncomputable def QE(n:Nat)(S:World->OsState->Shared)(a:World->OsState->SharedT)(b:List Stmt)(env:Env)(c:Code)(d e:Pos)(B:List Frame):ik (Option (Flow×Shared×Code×Pos)):=λw=>(λos=>segRun treeTable p w m ann 1 n (S w os) (blockOf b env c d B),λos=>some (Flow.next,(a w os).abs,c,e))
noncomputable def seg(n:Nat)(S a:World->OsState->SharedT)(l:List Stmt)(env:Env)(c:Code)(b d:Pos)(B:List Frame):ik (Option (Flow×SharedT×Code×Pos)):=λw=>(λos=>segRunT treeTable p w m ann 1 n (S w os) (piecesOf l env c b B),λos=>some (Flow.next,a w os,c,d))
noncomputable def fin(n:Nat)(S:World->OsState->SharedT)(a:World->OsState->Shared)(t:Thread):ik (Option Shared):=λw=>(λos=>topRun treeTable p w m ann n (S w os).abs t,λos=>some (a w os))
variable{p:Program}{m:Nat}{ann:Option Value}
def Goes(p:Program)(m:Nat)(ann:Option Value)(R:World->OsState->Shared)(n:Nat)(S:World->OsState->Shared)(t:Thread):Prop:=∀w os,topRun treeTable p w m ann n (S w os) t=some (R w os)
noncomputable def DF(S:World->OsState->SharedT):World->OsState->Shared:=λw os=>(S w os).abs
theorem KZ{n:Nat}{S:World->OsState->SharedT}{R:World->OsState->Shared}{env:Env}{c:Code}{a q:Pos}(h:Ok (fin p m ann n S R ⟨doneF .next,c,a,[topFrame q]⟩)):Goes p m ann R n (DF S) (restOf [] env c a [topFrame q]):=λw os=>piece_nil (congrFun (h w) os)
theorem oy{n N:Nat}{S a:World->OsState->SharedT}{R:World->OsState->Shared}{l rest:List Stmt}{env:Env}{c:Code}{b d q:Pos}(h:Ok (seg p m ann n S a l env c b d [topFrame q]))(k:Goes p m ann R N (DF a) (restOf rest env c d [topFrame q])):Goes p m ann R (n+N) (DF S) (restOf (l++rest) env c b [topFrame q]):=λw os=>piece_app (segRun_of (congrFun (h w) os)) (k w os)
theorem Nj{n N:Nat}{S:World->OsState->Shared}{a:World->OsState->SharedT}{R:World->OsState->Shared}{b b':List Stmt}{env:Env}{c d q:Pos}(e:b=b')(h:Ok (QE p m ann n S a b env (.body b env) c d [topFrame q]))(k:Goes p m ann R N (DF a) (restOf b' env (.body b env) d [topFrame q])):Goes p m ann R (n+N) S ⟨denote treeTable (.body b env), .body b env,c,[topFrame q]⟩:=λw os=>by subst e;exact piece_block (congrFun (h w) os) (k w os)
theorem K2{n N:Nat}{S a R:World->OsState->Shared}{t t':Thread}(h:Ok (pre p m ann n S a t t'))(k:Goes p m ann R N a t'):Goes p m ann R (n+N) S t:=λw os=>go_top (congrFun (h w) os) (k w os)
end
noncomputable def sz(m:Nat)(a:Option Value):ik (Bool×Nat×Option Value):=λw=>(λ_=>((boot_heap w.params).isNs mainGlobals&&(Array.mk []:Array GenState).size==0,(boot_heap w.params).objs.size,(boot_heap w.params).nsMap mainGlobals "__annotations__"),λ_=>(true,m,a))
noncomputable def LB(H:Params->Heap)(d:Drawn)(k:Nat):World->OsState->Shared:=λw os=>⟨H w.params,Array.mk [],d,k,os⟩
noncomputable def la(p:Program)(H₁:Params->Heap)(d:Drawn)(k:Nat):ik Bool:=λw=>(λos=>(staticsOk (importedModules p.main.body) (boot_heap w.params) (H₁ w.params)&&namesBound p (H₁ w.params)&&gensDone ⟨H₁ w.params,Array.mk [],d,k,os⟩&&laidKept (boot_heap w.params) (H₁ w.params)),λ_=>true)
noncomputable def lb(p q:Program)(loose:List Str)(Xt:Shared->Bool)(H₁:Params->Heap)(d:Drawn)(k:Nat):=λ(w:World)=>((λ(os:OsState)=>openSeen q loose (importedModules p.main.body) Xt true ⟨H₁ w.params,Array.mk [],d,k,os⟩),(λ(_:OsState)=>openGood q loose))
noncomputable def lc(H:Hook)(H₁:Params->Heap)(d:Drawn)(k:Nat):ik H.α:=λw=>(λos=>H.obs ⟨H₁ w.params,Array.mk [],d,k,os⟩,λ_=>H.val w)
theorem left{p q:Program}{loose:List Str}{Xt:Shared->Bool}{H:Hook}{N m M:Nat}{a:Option Value}{H₁:Params->Heap}{d:Drawn}{k:Nat}(e:opening p=plainProg p.main.scope.names)(b:Nat.ble 600 N=true)(f:∀s,fenceModules? p s=some s)(size:Ok (sz m a))(run:Goes p m a (LB H₁ d k) M (LB boot_heap boot_drawn boot_toks) (topStub p))(le:Nat.ble M N=true)(ha:Ok (la p H₁ d k))(hb:Ok (lb p q loose Xt H₁ d k))(hc:Ok (lc H H₁ d k)):LeftO p q loose Xt H.obs H.val N:=LeftO.of_pieces (H₀:=boot_heap) (H₁:=H₁) (boot_open e b f) (λw=>congrFun (size w) default) run le λw=>funext λos=>looks_pair (congrFun (ha w) os) (looks_pair (congrFun (hb w) os) (congrFun (hc w) os))
noncomputable def tp(l:List Value):Obj:=⟨.type "tuple",none, .seq l.toArray 0,#[]⟩
noncomputable def fl(l:List Value):Obj:=⟨.none,none, .fields l.toArray,#[]⟩
noncomputable def e(P:Params)(x:Str)(n:Nat)(v:Value):DictEntry:=⟨PyData.keyHash P x, .str x n,v⟩
noncomputable def dc(l:List DictEntry)(n:Nat):Obj:=⟨.type "dict",none, .dict l.toArray n,#[]⟩
noncomputable def dm(o:Obj)(l:List DictEntry)(n:Nat):Obj:=match o.data with| .dict a _=>dc (a.toList++l) n|_=>o
noncomputable def fa(o:Obj)(l:List Value):Obj:=match o.data with| .fields a=>fl (a.toList++l)|_=>o
noncomputable abbrev F4:Type:=Option (Flow×SharedT×Code×Pos)
noncomputable def cd(n q f:Str)(a b c:Nat)(e g h j k r:Nat)(t:Bool)(m s:Nat)(l o p u:Value)(y z d:Nat):Obj:=⟨.type "code",none, .fields #[.str n a, .str q b, .str f c,i e,i g,i h,i j,i k, .ref r, .bool t,i m, .ref s,l,o,p,u,i y,i z, .str f d],#[]⟩
noncomputable def fs(n q:Str)(s:Stmt):Obj:=⟨.none,none, .func ⟨n,q,L2.dX s, .stmts (L2.bM s),L2.ao s,0,[], .none, .none, .none, .none,none, .none, .none,0⟩,#[]⟩
noncomputable def fu(n q:Str)(s:Stmt)(m:Str)(k c:Nat):Obj:=⟨.type "function",none, .func ⟨n,q,L2.dX s, .stmts (L2.bM s),L2.ao s,3,[], .none, .none, .none, .str m k,none, .ref c, .none,0⟩,#[]⟩
noncomputable def fm(a b c:Nat)(m:Str)(k:Nat):Obj:=⟨.type "frame",none, .plain,#[some (.ref a),some (.ref b),some (.ref c),none,some (.str m k),none,some (.ref 0)]⟩
noncomputable def bm(v w:Value):Obj:=⟨.type "builtin_function_or_method",none, .fields #[v,w],#[]⟩
noncomputable def su(a:Nat):Obj:=⟨.type "super",none, .fields #[.ref a, .ref a, .ref a],#[]⟩
noncomputable def cl(n:Str)(b m:List Value)(d:Nat)(s:List Value)(t k j:Nat)(v:Value):Obj:=⟨.type "type",none, .cls ⟨n,b,m,d,n,true,[],s,false,none,false⟩,#[some (.ref t),none,some (.str n k),some (.str n j),some v,some (.bool true)]⟩
noncomputable def sb(o:Obj)(l:List Value):Obj:=match o with|⟨c,d, .cls x,t⟩=>⟨c,d, .cls {x with subclasses:=x.subclasses++l},t⟩|_=>o
noncomputable def zF(l:List Obj):BT->Nat->BT:=@List.rec Obj (λ_=>BT->Nat->BT) (λt _=>t) (λo _ b t a=>b (t.ins a o) (Nat.succ a)) l
end HD
end
section
namespace K17
open PySem PySem.W PySem.Calls PyProof.Rows
noncomputable abbrev pw:Program:=PySem.Challenge.pw_keeper_k17_whole_putting_in
noncomputable def ht(i:Nat):Stmt:=pw.main.body.getD i (.Pass ⟨0,0,0,0⟩)
noncomputable def Ol:Str:= .ofString "__name__"
noncomputable def Kd:Str:= .ofString "__doc__"
noncomputable def NJ:Str:= .ofString "__package__"
noncomputable def NZ:Str:= .ofString "__loader__"
noncomputable def Oh:Str:= .ofString "__spec__"
noncomputable def RI:Str:= .ofString "all"
noncomputable def Ox:Str:= .ofString "next"
noncomputable def Gh:Str:= .ofString "__main__"
noncomputable def xG:Str:= .ofString "__annotations__"
noncomputable def vV:Str:= .ofString "__builtins__"
noncomputable def wL:Str:= .ofString "__file__"
noncomputable def bq:Str:= .ofString "/claim/cut.py"
noncomputable def xw:Str:= .ofString "__cached__"
noncomputable def FT:Str:= .ofString "<module>"
noncomputable def gU:Str:= .ofString "_wall"
noncomputable def LY:Str:= .ofString "k"
noncomputable def iN:Str:= .ofString "keeper.errors"
noncomputable def j_:Str:= .ofString "KeeperError"
noncomputable def vX:Str:= .ofString "__module__"
noncomputable def F9:Str:= .ofString "__qualname__"
noncomputable def wY:Str:= .ofString "__firstlineno__"
noncomputable def gV:Str:= .ofString "small_name"
noncomputable def wU:Str:= .ofString "__static_attributes__"
noncomputable def F_:Str:= .ofString "self"
noncomputable def AJ:Str:= .ofString "KeeperError.small_name"
noncomputable def F5:Str:= .ofString "__weakref__"
noncomputable def lY:Str:= .ofString "Great"
noncomputable def Bv:Str:= .ofString "Great.small_name"
noncomputable def lO:Str:= .ofString "keeper.things"
noncomputable def B8:Str:= .ofString "MOST_KNOTS"
noncomputable def zY:Str:= .ofString "MOST_DEEP"
noncomputable def AX:Str:= .ofString "MOST_VARIABLE"
noncomputable def CA:Str:= .ofString "KIDS_DUE"
noncomputable def LL:Str:= .ofString "nat"
noncomputable def Mh:Str:= .ofString "none"
noncomputable def FD:Str:= .ofString "some"
noncomputable def Kr:Str:= .ofString "same"
noncomputable def MQ:Str:= .ofString "var"
noncomputable def Fv:Str:= .ofString "fun"
noncomputable def LO:Str:= .ofString "app"
noncomputable def Mk:Str:= .ofString "zero"
noncomputable def Gv:Str:= .ofString "rec"
noncomputable def Nl:Str:= .ofString "like"
noncomputable def Fe:Str:= .ofString "carry"
noncomputable def MA:Str:= .ofString "never"
noncomputable def MO:Str:= .ofString "pair"
noncomputable def NB:Str:= .ofString "first"
noncomputable def Km:Str:= .ofString "second"
noncomputable def F8:Str:= .ofString "name"
noncomputable def fV:Str:= .ofString "kind"
noncomputable def dJ:Str:= .ofString "term"
noncomputable def FX:Str:= .ofString "BINDER_OVER"
noncomputable def kg:Str:= .ofString "is_vast"
noncomputable def kL:Str:= .ofString "kids_of"
noncomputable def kK:Str:= .ofString "thing"
noncomputable def kA:Str:= .ofString "binds_of"
noncomputable def km:Str:= .ofString "top_variable"
noncomputable def ka:Str:= .ofString "bounded"
noncomputable def kJ:Str:= .ofString "rebuilt"
noncomputable def LG:Str:= .ofString "kids"
noncomputable def me:Str:= .ofString "keeper.putting"
noncomputable def kq:Str:= .ofString "numbers_free"
noncomputable def Nv:Str:= .ofString "binders"
noncomputable def K0:Str:= .ofString "numbers"
noncomputable def K4:Str:= .ofString "kid"
noncomputable def LS:Str:= .ofString "bound"
noncomputable def kG:Str:= .ofString "free_in"
noncomputable def jV:Str:= .ofString "with_free"
noncomputable def jU:Str:= .ofString "raised"
noncomputable def AV:Str:= .ofString "by"
noncomputable def AM:Str:= .ofString "low"
noncomputable def E_:Str:= .ofString "change"
noncomputable def mP:Str:= .ofString "lifted"
noncomputable def lR:Str:= .ofString "put_in"
noncomputable def Ft:Str:= .ofString "other"
noncomputable def E9:Str:= .ofString "at"
noncomputable def eX:Str:= .ofString "law_keeper_k17_whole_putting_in"
noncomputable def l7:Str:= .ofString "_law_cell_at"
noncomputable def Gx:Str:= .ofString "_law_script"
noncomputable def FF:Str:= .ofString "_law_k"
noncomputable def mC:Str:= .ofString "_law_next"
noncomputable def FK:Str:= .ofString "_law_state_here"
noncomputable def mX:Str:= .ofString "_law_state"
noncomputable def GD:Str:= .ofString "_law_cell"
noncomputable def Mf:Str:= .ofString "_law_most"
noncomputable def lX:Str:= .ofString "_law_shape"
noncomputable def z4:Str:= .ofString "_law_word"
noncomputable def Nd:Str:= .ofString "_law_shapes"
noncomputable def Ku:Str:= .ofString "_law_more"
noncomputable def mh:Str:= .ofString "_law_name"
noncomputable def FU:Str:= .ofString "_law_number"
noncomputable def L9:Str:= .ofString "_law_some"
noncomputable def mI:Str:= .ofString "_law_grown"
noncomputable def Gg:Str:= .ofString "_law_want"
noncomputable def Kk:Str:= .ofString "_law_left"
noncomputable def Kt:Str:= .ofString "_law_words"
noncomputable def Ki:Str:= .ofString "_law_parts"
noncomputable def Kg:Str:= .ofString "_law_kind"
noncomputable def mf:Str:= .ofString "_law_kids"
noncomputable def lS:Str:= .ofString "_law_binds"
noncomputable def xp:Str:= .ofString "_law_thing"
noncomputable def m8:Str:= .ofString "_law_alike"
noncomputable def lZ:Str:= .ofString "_law_twice"
noncomputable def FN:Str:= .ofString "_law_one"
noncomputable def Gr:Str:= .ofString "_law_other"
noncomputable def Gb:Str:= .ofString "_law_low"
noncomputable def Fy:Str:= .ofString "_law_high"
noncomputable def Mp:Str:= .ofString "_law_first"
noncomputable def K3:Str:= .ofString "_law_behind"
noncomputable def lJ:Str:= .ofString "_law_deep"
noncomputable def My:Str:= .ofString "_law_nat"
noncomputable def Mj:Str:= .ofString "_law_deep_here"
noncomputable def Kl:Str:= .ofString "_law_way"
noncomputable def L7:Str:= .ofString "_law_side"
noncomputable def lW:Str:= .ofString "law"
noncomputable def Lu:Str:= .ofString "_law_up"
variable(P:Params)
noncomputable def jG:Env:={scope:=pw.main.scope,locals:=mainNs,globals:=mainNs,cells:=[],code:=(.ref 13),frame:=some (nat_lit 14)}
noncomputable def eQ:Code:= .body (behindTheImports pw) jG
noncomputable def hG:List Frame:=[topFrame ⟨0,0,0,0⟩]
noncomputable abbrev Oq:World->OsState->Shared:=HD.LB boot_heap boot_drawn boot_toks
def ae:=HD.tp []
def aL:=HD.fl []
def A9:=HD.cd FT FT bq 182 183 184 1 0 0 0 0 11 false 181 12 .none .none .none .none 185 1 186
def CU:=HD.fm 13 3 3 Gh 164
noncomputable def Mm(r:List (Obj)):List (Obj):=PySem.W.boot_o_0 P::PySem.W.boot_o_1 P::PySem.W.boot_o_2 P::PySem.W.boot_o_3 P::PySem.W.boot_o_4 P::PySem.W.boot_o_5 P::PySem.W.boot_o_6 P::PySem.W.boot_o_7 P::PySem.W.boot_o_8 P::PySem.W.boot_o_9 P::PySem.W.boot_o_10 P::ae::r
noncomputable def LI(r:List (Obj)):List (Obj):=aL::A9::CU::r
noncomputable def TR(P:Params):Heap:=⟨Array.mk (Mm P (LI [])),⟨[],[],[],0,[],[],false,#[],[],0,false,false,false,(.ofNat 0),[(.ofNat 2000),(.ofNat 10),(.ofNat 10)],false,0,true,[],[],0,false⟩⟩
noncomputable def T9:Drawn:=⟨0,0,0,0⟩
noncomputable def Vh:Nat:=nat_lit 187
noncomputable abbrev J4:World->OsState->Shared:=HD.LB TR T9 Vh
noncomputable def RE:HD.ik (Option (Shared×Thread)):=λw=>(λos=>topGo treeTable pw w (nat_lit 11) (some (.ref 6)) (nat_lit 12) (Oq w os) (topStub pw),λos=>some (J4 w os,Thread.mk (denote treeTable eQ) eQ ⟨0,0,0,0⟩ hG))
theorem G1:HD.pre pw (nat_lit 11) (some (.ref 6)) (nat_lit 12) Oq J4 (topStub pw) (Thread.mk (denote treeTable eQ) eQ ⟨0,0,0,0⟩ hG)=RE:=by kernel_rfl
name_quick Gy for RE by G1
theorem Vt(w:World):(Fast.Gy w).1=(Fast.Gy w).2:=by kernel_rfl
theorem T_:HD.Ok (HD.pre pw (nat_lit 11) (some (.ref 6)) (nat_lit 12) Oq J4 (topStub pw) (Thread.mk (denote treeTable eQ) eQ ⟨0,0,0,0⟩ hG)):=HD.lu Fast.Gy_eq Vt
noncomputable def Kj(r:List (Obj)):List (Obj):=PySem.W.boot_o_0 P::PySem.W.boot_o_1 P::PySem.W.boot_o_2 P::PySem.W.boot_o_3 P::PySem.W.boot_o_4 P::PySem.W.boot_o_5 P::PySem.W.boot_o_6 P::PySem.W.boot_o_7 P::PySem.W.boot_o_8 P::PySem.W.boot_o_9 P::PySem.W.boot_o_10 P::ae::r
noncomputable def Ld(r:List (Obj)):List (Obj):=aL::A9::CU::r
noncomputable def RL(P:Params):BT:=HD.UE (Kj P (Ld []))
noncomputable def u3:Life:=⟨[],[],[],0,[],[],false,#[],[],0,false,false,false,(.ofNat 0),[(.ofNat 2000),(.ofNat 10),(.ofNat 10)],false,0,true,[],[],0,false⟩
noncomputable abbrev Kc(w:World)(os:OsState):SharedT:=⟨RL w.params,nat_lit 15,u3,Array.mk [],⟨0,0,0,0⟩,nat_lit 187,os⟩
noncomputable def Rk:HD.ik (Option (Flow×Shared×Code×Pos)):=λw=>(λos=>segRun treeTable pw w (nat_lit 11) (some (.ref 6)) (nat_lit 1) (nat_lit 1) (J4 w os) (blockOf (behindTheImports pw) jG eQ ⟨0,0,0,0⟩ hG),λos=>some (Flow.next,(Kc w os).abs,eQ,⟨0,0,0,0⟩))
theorem IX:HD.QE pw (nat_lit 11) (some (.ref 6)) (nat_lit 1) J4 Kc (behindTheImports pw) jG eQ ⟨0,0,0,0⟩ ⟨0,0,0,0⟩ hG=Rk:=by kernel_rfl
name_quick Fx for Rk by IX
theorem Uj(w:World):(Fast.Fx w).1=(Fast.Fx w).2:=by kernel_rfl
theorem UR:HD.Ok (HD.QE pw (nat_lit 11) (some (.ref 6)) (nat_lit 1) J4 Kc (behindTheImports pw) jG eQ ⟨0,0,0,0⟩ ⟨0,0,0,0⟩ hG):=HD.lu Fast.Fx_eq Uj
def O4:=HD.dc [HD.e P Ol 165 (.str iN 194),HD.e P Kd 166 .none,HD.e P NJ 167 .none,HD.e P NZ 168 (.builtin "__main__.__loader__#opaque"),HD.e P Oh 169 .none,HD.e P xG 170 (.ref 6),HD.e P vV 171 (.ref 4),HD.e P wL 173 (.str bq 172),HD.e P xw 174 .none,HD.e P gU 193 (.ref 21),HD.e P j_ 220 (.ref 38)] 11
def GB:=HD.fl [(HD.i 1),(HD.i 0),(.ref 20),(HD.i 5),(HD.i 0),(.ref 27)]
def xj:=HD.tp [(.str LY 190)]
def FH:=HD.fs gU gU (ht 0)
def wA:=HD.cd gU gU bq 187 188 189 1 1 0 0 3 15 true 181 16 .none (.ref 17) (.ref 18) (.ref 19) 191 1 192
def wc:=HD.fu gU gU (ht 0) Gh 164 20
def xM:=HD.tp [(.type "ValueError")]
def x8:=HD.bm (.builtin "type.__prepare__") (.type "type")
def E3:=HD.dc [HD.e P vX 203 (.str iN 194),HD.e P F9 205 (.str j_ 204),HD.e P wY 207 (.int (.ofNat 5) 206),HD.e P gV 214 (.ref 35),HD.e P wU 215 (.ref 36)] 5
def Gw:=HD.fl [(HD.i 7),(HD.i 4),(.ref 34)]
def Gq:=HD.cd j_ j_ bq 198 199 200 5 0 0 0 0 25 false 181 26 .none .none .none .none 201 5 202
def FW:=HD.fm 27 3 24 iN 194
def we:=HD.tp [(.str F_ 211)]
def EX:=HD.fs gV AJ (L2.inClass (ht 2) 0)
def v_:=HD.cd gV AJ bq 208 209 210 7 1 0 0 3 29 true 181 30 .none (.ref 31) (.ref 32) (.ref 33) 212 7 213
def xO:=HD.fu gV AJ (L2.inClass (ht 2) 0) iN 194 34
def wI:=HD.dc [HD.e P vX 203 (.str iN 194),HD.e P wY 207 (.int (.ofNat 5) 206),HD.e P gV 214 (.ref 35),HD.e P wU 215 (.ref 36),HD.e P F5 217 (.ref 39),HD.e P Kd 218 .none] 3
def FL:=HD.cl j_ [(.type "ValueError")] [(.ref 38),(.type "ValueError"),(.type "Exception"),(.type "BaseException"),(.type "object")] 37 [] 22 196 204 (.builtin "ValueError.__new__")
noncomputable def xq:Obj:=⟨(.type "getset_descriptor"),none,(.fields #[(.str F5 216),(.ref 38),(.builtin "ExceptionGroup.__weakref__"), .none]),#[]⟩
def Fo:=HD.su 38
def Ff:=HD.bm (.builtin "object.__init_subclass__") (.ref 38)
noncomputable def Om:List Stmt:=[ht 0,ht 1,ht 2]
noncomputable def Rq(P:Params):BT:=(HD.zF [ae,aL,xj,ae,FH,wA,wc,xM,x8,E3 P,ae,Gw,Gq,FW,ae,aL,we,ae,EX,v_,xO,ae,wI P,FL,xq,Fo,Ff] (((RL P).ins (nat_lit 3) (O4 P)).ins (nat_lit 12) (GB)) (nat_lit 15))
noncomputable abbrev JU(w:World)(os:OsState):SharedT:=⟨Rq w.params,nat_lit 42,u3,Array.mk [],⟨0,0,0,0⟩,nat_lit 221,os⟩
noncomputable def S8:HD.ik (HD.F4):=λw=>(λos=>segRunT treeTable pw w (nat_lit 11) (some (.ref 6)) (nat_lit 1) (nat_lit 255) (Kc w os) (piecesOf Om jG eQ ⟨0,0,0,0⟩ hG),λos=>some (Flow.next,JU w os,eQ,⟨5,0,8,16⟩))
theorem Iv:HD.seg pw (nat_lit 11) (some (.ref 6)) (nat_lit 255) Kc JU Om jG eQ ⟨0,0,0,0⟩ ⟨5,0,8,16⟩ hG=S8:=by kernel_rfl
name_quick GC for S8 by Iv
theorem Vn(w:World):(Fast.GC w).1=(Fast.GC w).2:=by kernel_rfl
theorem VE:HD.Ok (HD.seg pw (nat_lit 11) (some (.ref 6)) (nat_lit 255) Kc JU Om jG eQ ⟨0,0,0,0⟩ ⟨5,0,8,16⟩ hG):=HD.lu Fast.GC_eq Vn
def KJ:=HD.dc [HD.e P Ol 165 (.str lO 244),HD.e P Kd 166 .none,HD.e P NJ 167 .none,HD.e P NZ 168 (.builtin "__main__.__loader__#opaque"),HD.e P Oh 169 .none,HD.e P xG 170 (.ref 6),HD.e P vV 171 (.ref 4),HD.e P wL 173 (.str bq 172),HD.e P xw 174 .none,HD.e P gU 193 (.ref 21),HD.e P j_ 220 (.ref 38),HD.e P lY 243 (.ref 58),HD.e P B8 247 (.int (.ofNat 600) 246),HD.e P zY 249 (.int (.ofNat 40) 248),HD.e P AX 251 (.int (.ofNat 99) 250)] 15
def Fs:=HD.fa (GB) [(HD.i 9),(HD.i 0),(.ref 47)]
def wM:=HD.sb (FL) [(.ref 58)]
def wg:=HD.tp [(.ref 38)]
def E6:=HD.dc [HD.e P vX 228 (.str iN 194),HD.e P F9 230 (.str lY 229),HD.e P wY 232 (.int (.ofNat 9) 231),HD.e P gV 239 (.ref 55),HD.e P wU 240 (.ref 56)] 5
def F6:=HD.fl [(HD.i 11),(HD.i 4),(.ref 54)]
def Fg:=HD.cd lY lY bq 223 224 225 9 0 0 0 0 45 false 181 46 .none .none .none .none 226 9 227
def Fp:=HD.fm 47 3 44 iN 194
def wQ:=HD.tp [(.str F_ 236)]
def GA:=HD.fs gV Bv (L2.inClass (ht 3) 0)
def xx:=HD.cd gV Bv bq 233 234 235 11 1 0 0 3 49 true 181 50 .none (.ref 51) (.ref 52) (.ref 53) 237 11 238
def wD:=HD.fu gV Bv (L2.inClass (ht 3) 0) iN 194 54
def xD:=HD.dc [HD.e P vX 228 (.str iN 194),HD.e P wY 232 (.int (.ofNat 9) 231),HD.e P gV 239 (.ref 55),HD.e P wU 240 (.ref 56),HD.e P Kd 241 .none] 2
def wJ:=HD.cl lY [(.ref 38)] [(.ref 58),(.ref 38),(.type "ValueError"),(.type "Exception"),(.type "BaseException"),(.type "object")] 57 [] 42 221 229 (.builtin "ValueError.__new__")
def Fn:=HD.su 58
def EZ:=HD.bm (.builtin "object.__init_subclass__") (.ref 58)
noncomputable def NS:List Stmt:=[ht 3,ht 4,ht 5,ht 6,ht 7]
noncomputable def RG(P:Params):BT:=(HD.zF [wg,x8,E6 P,ae,F6,Fg,Fp,ae,aL,wQ,ae,GA,xx,wD,ae,xD P,wJ,Fn,EZ] ((((Rq P).ins (nat_lit 3) (KJ P)).ins (nat_lit 12) (Fs)).ins (nat_lit 38) (wM)) (nat_lit 42))
noncomputable abbrev FR(w:World)(os:OsState):SharedT:=⟨RG w.params,nat_lit 61,u3,Array.mk [],⟨0,0,0,0⟩,nat_lit 252,os⟩
noncomputable def Sn:HD.ik (HD.F4):=λw=>(λos=>segRunT treeTable pw w (nat_lit 11) (some (.ref 6)) (nat_lit 1) (nat_lit 280) (JU w os) (piecesOf NS jG eQ ⟨5,0,8,16⟩ hG),λos=>some (Flow.next,FR w os,eQ,⟨16,0,16,13⟩))
theorem Jz:HD.seg pw (nat_lit 11) (some (.ref 6)) (nat_lit 280) JU FR NS jG eQ ⟨5,0,8,16⟩ ⟨16,0,16,13⟩ hG=Sn:=by kernel_rfl
name_quick Fj for Sn by Jz
theorem U5(w:World):(Fast.Fj w).1=(Fast.Fj w).2:=by kernel_rfl
theorem Tj:HD.Ok (HD.seg pw (nat_lit 11) (some (.ref 6)) (nat_lit 280) JU FR NS jG eQ ⟨5,0,8,16⟩ ⟨16,0,16,13⟩ hG):=HD.lu Fast.Fj_eq U5
def OT:=HD.dm (KJ P) [HD.e P CA 316 (.ref 61)] 16
def yg:=HD.dc [HD.e P LL 252 (.ref 62),HD.e P Mh 254 (.ref 63),HD.e P RI 256 (.ref 64),HD.e P FD 260 (.ref 65),HD.e P Kr 264 (.ref 66),HD.e P MQ 269 (.ref 67),HD.e P Fv 271 (.ref 68),HD.e P LO 275 (.ref 69),HD.e P Mk 279 (.ref 70),HD.e P Ox 281 (.ref 71),HD.e P Gv 284 (.ref 72),HD.e P Nl 290 (.ref 73),HD.e P Fe 294 (.ref 74),HD.e P MA 299 (.ref 75),HD.e P MO 303 (.ref 76),HD.e P NB 308 (.ref 77),HD.e P Km 311 (.ref 78),HD.e P F8 314 (.ref 80)] 18
def wa:=HD.tp [(.str fV 257),(.str fV 258)]
def xX:=HD.tp [(.str fV 261),(.str fV 262)]
def v9:=HD.tp [(.str fV 265),(.str dJ 266),(.str dJ 267)]
def xn:=HD.tp [(.str fV 272),(.str dJ 273)]
def xJ:=HD.tp [(.str dJ 276),(.str dJ 277)]
def xH:=HD.tp [(.str dJ 282)]
def xg:=HD.tp [(.str fV 285),(.str dJ 286),(.str dJ 287),(.str dJ 288)]
def xc:=HD.tp [(.str fV 291),(.str dJ 292)]
def wx:=HD.tp [(.str fV 295),(.str dJ 296),(.str dJ 297)]
def xU:=HD.tp [(.str fV 300),(.str dJ 301)]
def wt:=HD.tp [(.str fV 304),(.str dJ 305),(.str dJ 306)]
def xW:=HD.tp [(.str dJ 309)]
def xr:=HD.tp [(.str dJ 312)]
def FJ:=HD.dc [HD.e P F8 314 (.ref 80)] 1
noncomputable def JR:List Stmt:=[ht 8]
noncomputable def Sa(P:Params):BT:=(HD.zF [yg P,ae,ae,wa,xX,v9,ae,xn,xJ,ae,xH,xg,xc,wx,xU,wt,xW,xr,FJ P,ae] ((RG P).ins (nat_lit 3) (OT P)) (nat_lit 61))
noncomputable abbrev C3(w:World)(os:OsState):SharedT:=⟨Sa w.params,nat_lit 81,u3,Array.mk [],⟨0,0,0,0⟩,nat_lit 317,os⟩
noncomputable def Kz:HD.ik (HD.F4):=λw=>(λos=>segRunT treeTable pw (w.withFollow "special-get-raises" false) (nat_lit 11) (some (.ref 6)) (nat_lit 1) (nat_lit 340) (FR (w.withFollow "special-get-raises" false) os) (piecesOf JR jG eQ ⟨16,0,16,13⟩ hG),λos=>some (Flow.next,C3 (w.withFollow "special-get-raises" false) os,eQ,⟨17,0,17,8⟩))
theorem Es:(λw:World=>HD.seg pw (nat_lit 11) (some (.ref 6)) (nat_lit 340) FR C3 JR jG eQ ⟨16,0,16,13⟩ ⟨17,0,17,8⟩ hG (w.withFollow "special-get-raises" false))=Kz:=by kernel_rfl
name_quick CD for Kz by Es
theorem Pn(w:World):(Fast.CD w).1=(Fast.CD w).2:=by kernel_rfl
noncomputable def LP:HD.ik (HD.F4):=λw=>(λos=>segRunT treeTable pw (w.withFollow "special-get-raises" true) (nat_lit 11) (some (.ref 6)) (nat_lit 1) (nat_lit 340) (FR (w.withFollow "special-get-raises" true) os) (piecesOf JR jG eQ ⟨16,0,16,13⟩ hG),λos=>some (Flow.next,C3 (w.withFollow "special-get-raises" true) os,eQ,⟨17,0,17,8⟩))
theorem Dy:(λw:World=>HD.seg pw (nat_lit 11) (some (.ref 6)) (nat_lit 340) FR C3 JR jG eQ ⟨16,0,16,13⟩ ⟨17,0,17,8⟩ hG (w.withFollow "special-get-raises" true))=LP:=by kernel_rfl
name_quick CO for LP by Dy
theorem Q4(w:World):(Fast.CO w).1=(Fast.CO w).2:=by kernel_rfl
theorem UU:HD.Ok (HD.seg pw (nat_lit 11) (some (.ref 6)) (nat_lit 340) FR C3 JR jG eQ ⟨16,0,16,13⟩ ⟨17,0,17,8⟩ hG):=HD.EB "special-get-raises" Fast.CD_eq Fast.CO_eq Pn Q4
def Rb:=HD.dc [HD.e P Ol 165 (.str me 373),HD.e P Kd 166 .none,HD.e P NJ 167 .none,HD.e P NZ 168 (.builtin "__main__.__loader__#opaque"),HD.e P Oh 169 .none,HD.e P xG 170 (.ref 6),HD.e P vV 171 (.ref 4),HD.e P wL 173 (.str bq 172),HD.e P xw 174 .none,HD.e P gU 193 (.ref 21),HD.e P j_ 220 (.ref 38),HD.e P lY 243 (.ref 58),HD.e P B8 247 (.int (.ofNat 600) 246),HD.e P zY 249 (.int (.ofNat 40) 248),HD.e P AX 251 (.int (.ofNat 99) 250),HD.e P CA 316 (.ref 61),HD.e P FX 332 (.ref 81),HD.e P kg 338 (.ref 86),HD.e P kL 345 (.ref 93),HD.e P kA 351 (.ref 98),HD.e P km 357 (.ref 103),HD.e P ka 364 (.ref 110),HD.e P kJ 372 (.ref 117),HD.e P kq 385 (.ref 124),HD.e P kG 392 (.ref 131),HD.e P jV 398 (.ref 136),HD.e P jU 410 (.ref 143)] 27
def Gk:=HD.fa (Fs) [(HD.i 19),(HD.i 0),(.ref 85),(HD.i 31),(HD.i 0),(.ref 92),(HD.i 35),(HD.i 0),(.ref 97),(HD.i 38),(HD.i 0),(.ref 102),(HD.i 42),(HD.i 0),(.ref 109),(HD.i 46),(HD.i 0),(.ref 116),(HD.i 51),(HD.i 0),(.ref 123),(HD.i 58),(HD.i 0),(.ref 130),(HD.i 60),(HD.i 0),(.ref 135),(HD.i 65),(HD.i 0),(.ref 142)]
def xu:=HD.dc [HD.e P RI 317 (.int (.ofNat 1) 318),HD.e P FD 319 (.int (.ofNat 1) 320),HD.e P Fv 321 (.int (.ofNat 1) 322),HD.e P Gv 323 (.int (.ofNat 0) 324),HD.e P Fe 325 (.int (.ofNat 0) 326)] 5
def Fw:=HD.fs kg kg (ht 10)
def xl:=HD.cd kg kg bq 333 334 335 19 1 0 0 3 82 true 181 83 .none .none .none (.ref 84) 336 19 337
def wB:=HD.fu kg kg (ht 10) lO 244 85
def xC:=HD.tp [(.str kK 342)]
def EY:=HD.fs kL kL (ht 11)
def xb:=HD.cd kL kL bq 339 340 341 31 1 0 0 3 87 true 181 88 .none (.ref 89) (.ref 90) (.ref 91) 343 31 344
def wb:=HD.fu kL kL (ht 11) lO 244 92
def Fd:=HD.fs kA kA (ht 12)
def xf:=HD.cd kA kA bq 346 347 348 35 1 0 0 3 94 true 181 95 .none .none .none (.ref 96) 349 35 350
def wK:=HD.fu kA kA (ht 12) lO 244 97
def Cf:=HD.fs km km (ht 13)
def pX:=HD.cd km km bq 352 353 354 38 1 0 0 3 99 true 181 100 .none .none .none (.ref 101) 355 38 356
def rM:=HD.fu km km (ht 13) lO 244 102
def qA:=HD.tp [(.str kK 361)]
def Au:=HD.fs ka ka (ht 14)
def qY:=HD.cd ka ka bq 358 359 360 42 1 0 0 3 104 true 181 105 .none (.ref 106) (.ref 107) (.ref 108) 362 42 363
def p9:=HD.fu ka ka (ht 14) lO 244 109
def oY:=HD.tp [(.str kK 368),(.str LG 369)]
def zW:=HD.fs kJ kJ (ht 15)
def p6:=HD.cd kJ kJ bq 365 366 367 46 2 0 0 3 111 true 181 112 .none (.ref 113) (.ref 114) (.ref 115) 370 46 371
def rN:=HD.fu kJ kJ (ht 15) lO 244 116
def rP:=HD.tp [(.str kK 378),(.str Nv 379),(.str K0 380),(.str K4 381),(.str LS 382)]
def Cc:=HD.fs kq kq (ht 17)
def qM:=HD.cd kq kq bq 375 376 377 51 2 0 0 3 118 true 181 119 .none (.ref 120) (.ref 121) (.ref 122) 383 51 384
def pd:=HD.fu kq kq (ht 17) me 373 123
def pE:=HD.tp [(.str kK 389)]
def A7:=HD.fs kG kG (ht 18)
def pP:=HD.cd kG kG bq 386 387 388 58 1 0 0 3 125 true 181 126 .none (.ref 127) (.ref 128) (.ref 129) 390 58 391
def qc:=HD.fu kG kG (ht 18) me 373 130
def CC:=HD.fs jV jV (ht 19)
def rG:=HD.cd jV jV bq 393 394 395 60 3 0 0 3 132 true 181 133 .none .none .none (.ref 134) 396 60 397
def oU:=HD.fu jV jV (ht 19) me 373 135
def qy:=HD.tp [(.str kK 402),(.str AV 403),(.str AM 404),(.str E_ 405)]
def rK:=HD.tp [(.str AV 406),(.str AM 407)]
def Ao:=HD.fs jU jU (ht 20)
def qF:=HD.cd jU jU bq 399 400 401 65 3 0 0 3 137 true 181 138 .none (.ref 139) (.ref 140) (.ref 141) 408 65 409
def pz:=HD.fu jU jU (ht 20) me 373 142
noncomputable def J3:List Stmt:=[ht 9,ht 10,ht 11,ht 12,ht 13,ht 14,ht 15,ht 16,ht 17,ht 18,ht 19,ht 20]
noncomputable def Rx(P:Params):BT:=(HD.zF [xu P,ae,aL,Fw,xl,wB,ae,aL,xC,ae,EY,xb,wb,ae,aL,Fd,xf,wK,ae,aL,Cf,pX,rM,ae,aL,qA,ae,Au,qY,p9,ae,aL,oY,ae,zW,p6,rN,ae,aL,rP,ae,Cc,qM,pd,ae,aL,pE,ae,A7,pP,qc,ae,aL,CC,rG,oU,ae,aL,qy,rK,Ao,qF,pz] (((Sa P).ins (nat_lit 3) (Rb P)).ins (nat_lit 12) (Gk)) (nat_lit 81))
noncomputable abbrev Fi(w:World)(os:OsState):SharedT:=⟨Rx w.params,nat_lit 144,u3,Array.mk [],⟨0,0,0,0⟩,nat_lit 411,os⟩
noncomputable def Na:HD.ik (HD.F4):=λw=>(λos=>segRunT treeTable pw (w.withFollow "special-get-raises" false) (nat_lit 11) (some (.ref 6)) (nat_lit 1) (nat_lit 383) (C3 (w.withFollow "special-get-raises" false) os) (piecesOf J3 jG eQ ⟨17,0,17,8⟩ hG),λos=>some (Flow.next,Fi (w.withFollow "special-get-raises" false) os,eQ,⟨65,0,69,38⟩))
theorem ER:(λw:World=>HD.seg pw (nat_lit 11) (some (.ref 6)) (nat_lit 383) C3 Fi J3 jG eQ ⟨17,0,17,8⟩ ⟨65,0,69,38⟩ hG (w.withFollow "special-get-raises" false))=Na:=by kernel_rfl
name_quick z_ for Na by ER
theorem QL(w:World):(Fast.z_ w).1=(Fast.z_ w).2:=by kernel_rfl
noncomputable def NI:HD.ik (HD.F4):=λw=>(λos=>segRunT treeTable pw (w.withFollow "special-get-raises" true) (nat_lit 11) (some (.ref 6)) (nat_lit 1) (nat_lit 383) (C3 (w.withFollow "special-get-raises" true) os) (piecesOf J3 jG eQ ⟨17,0,17,8⟩ hG),λos=>some (Flow.next,Fi (w.withFollow "special-get-raises" true) os,eQ,⟨65,0,69,38⟩))
theorem Dm:(λw:World=>HD.seg pw (nat_lit 11) (some (.ref 6)) (nat_lit 383) C3 Fi J3 jG eQ ⟨17,0,17,8⟩ ⟨65,0,69,38⟩ hG (w.withFollow "special-get-raises" true))=NI:=by kernel_rfl
name_quick By for NI by Dm
theorem PU(w:World):(Fast.By w).1=(Fast.By w).2:=by kernel_rfl
theorem V2:HD.Ok (HD.seg pw (nat_lit 11) (some (.ref 6)) (nat_lit 383) C3 Fi J3 jG eQ ⟨17,0,17,8⟩ ⟨65,0,69,38⟩ hG):=HD.EB "special-get-raises" Fast.z__eq Fast.By_eq QL PU
def Ly:=HD.dc [HD.e P Ol 165 (.str eX 432),HD.e P Kd 166 .none,HD.e P NJ 167 .none,HD.e P NZ 168 (.builtin "__main__.__loader__#opaque"),HD.e P Oh 169 .none,HD.e P xG 170 (.ref 6),HD.e P vV 171 (.ref 4),HD.e P wL 173 (.str bq 172),HD.e P xw 174 .none,HD.e P gU 193 (.ref 21),HD.e P j_ 220 (.ref 38),HD.e P lY 243 (.ref 58),HD.e P B8 247 (.int (.ofNat 600) 246),HD.e P zY 249 (.int (.ofNat 40) 248),HD.e P AX 251 (.int (.ofNat 99) 250),HD.e P CA 316 (.ref 61),HD.e P FX 332 (.ref 81),HD.e P kg 338 (.ref 86),HD.e P kL 345 (.ref 93),HD.e P kA 351 (.ref 98),HD.e P km 357 (.ref 103),HD.e P ka 364 (.ref 110),HD.e P kJ 372 (.ref 117),HD.e P kq 385 (.ref 124),HD.e P kG 392 (.ref 131),HD.e P jV 398 (.ref 136),HD.e P jU 410 (.ref 143),HD.e P mP 419 (.ref 150),HD.e P lR 431 (.ref 157),HD.e P l7 441 (.ref 164),HD.e P mC 448 (.ref 171),HD.e P mX 456 (.ref 178),HD.e P lX 465 (.ref 185),HD.e P mh 474 (.ref 192),HD.e P mI 488 (.ref 199),HD.e P mf 494 (.ref 204),HD.e P lS 501 (.ref 211),HD.e P m8 507 (.ref 216),HD.e P lZ 520 (.ref 223)] 39
def FA:=HD.fa (Gk) [(HD.i 70),(HD.i 0),(.ref 149),(HD.i 72),(HD.i 0),(.ref 156),(HD.i 80),(HD.i 0),(.ref 163),(HD.i 84),(HD.i 0),(.ref 170),(HD.i 88),(HD.i 0),(.ref 177),(HD.i 90),(HD.i 0),(.ref 184),(HD.i 98),(HD.i 0),(.ref 191),(HD.i 106),(HD.i 0),(.ref 198),(HD.i 126),(HD.i 0),(.ref 203),(HD.i 129),(HD.i 0),(.ref 210),(HD.i 135),(HD.i 0),(.ref 215),(HD.i 141),(HD.i 0),(.ref 222)]
def rS:=HD.tp [(.str kK 414),(.str AV 415),(.str AM 416)]
def Bf:=HD.fs mP mP (ht 21)
def pe:=HD.cd mP mP bq 411 412 413 70 3 0 0 3 144 true 181 145 .none (.ref 146) (.ref 147) (.ref 148) 417 70 418
def qD:=HD.fu mP mP (ht 21) me 373 149
def qZ:=HD.tp [(.str kK 423),(.str Ft 424),(.str E9 425),(.str E_ 426)]
def qJ:=HD.tp [(.str Ft 427),(.str E9 428)]
def AD:=HD.fs lR lR (ht 22)
def pL:=HD.cd lR lR bq 420 421 422 72 3 0 0 3 151 true 181 152 .none (.ref 153) (.ref 154) (.ref 155) 429 72 430
def pG:=HD.fu lR lR (ht 22) me 373 156
def rm:=HD.tp [(.str Gx 437),(.str FF 438)]
def BH:=HD.fs l7 l7 (ht 24)
def qj:=HD.cd l7 l7 bq 434 435 436 80 2 0 0 3 158 true 181 159 .none (.ref 160) (.ref 161) (.ref 162) 439 80 440
def qO:=HD.fu l7 l7 (ht 24) eX 432 163
def qX:=HD.tp [(.str FK 445)]
def BZ:=HD.fs mC mC (ht 25)
def qU:=HD.cd mC mC bq 442 443 444 84 1 0 0 3 165 true 181 166 .none (.ref 167) (.ref 168) (.ref 169) 446 84 447
def qp:=HD.fu mC mC (ht 25) eX 432 170
def qg:=HD.tp [(.str GD 452),(.str Mf 453)]
def Bb:=HD.fs mX mX (ht 26)
def pN:=HD.cd mX mX bq 449 450 451 88 2 0 0 3 172 true 181 173 .none (.ref 174) (.ref 175) (.ref 176) 454 88 455
def pC:=HD.fu mX mX (ht 26) eX 432 177
def qW:=HD.tp [(.str z4 460),(.str Nd 461),(.str Ku 462)]
def zX:=HD.fs lX lX (ht 27)
def oS:=HD.cd lX lX bq 457 458 459 90 1 0 0 3 179 true 181 180 .none (.ref 181) (.ref 182) (.ref 183) 463 90 464
def pD:=HD.fu lX lX (ht 27) eX 432 184
def qk:=HD.tp [(.str FU 469),(.str L9 470),(.str z4 471)]
def Bt:=HD.fs mh mh (ht 28)
def ph:=HD.cd mh mh bq 466 467 468 98 1 0 0 3 186 true 181 187 .none (.ref 188) (.ref 189) (.ref 190) 472 98 473
def pO:=HD.fu mh mh (ht 28) eX 432 191
def oP:=HD.tp [(.str FK 478),(.str Gg 479),(.str Kk 480),(.str FU 481),(.str Kt 482),(.str z4 483),(.str Ki 484),(.str Kg 485)]
def A1:=HD.fs mI mI (ht 29)
def rH:=HD.cd mI mI bq 475 476 477 106 3 0 0 3 193 true 181 194 .none (.ref 195) (.ref 196) (.ref 197) 486 106 487
def rR:=HD.fu mI mI (ht 29) eX 432 198
def CP:=HD.fs mf mf (ht 30)
def CB:=HD.cd mf mf bq 489 490 491 126 1 0 0 3 200 true 181 201 .none .none .none (.ref 202) 492 126 493
def As:=HD.fu mf mf (ht 30) eX 432 203
def AN:=HD.tp [(.str xp 498)]
def B7:=HD.fs lS lS (ht 31)
def B9:=HD.cd lS lS bq 495 496 497 129 1 0 0 3 205 true 181 206 .none (.ref 207) (.ref 208) (.ref 209) 499 129 500
def Bu:=HD.fu lS lS (ht 31) eX 432 210
def Ae:=HD.fs m8 m8 (ht 32)
def qi:=HD.cd m8 m8 bq 502 503 504 135 2 0 0 3 212 true 181 213 .none .none .none (.ref 214) 505 135 506
def p8:=HD.fu m8 m8 (ht 32) eX 432 215
def rC:=HD.tp [(.str xp 511),(.str FN 512),(.str Gr 513),(.str Gb 514),(.str Fy 515),(.str Mp 516),(.str K3 517)]
def Ay:=HD.fs lZ lZ (ht 33)
def qP:=HD.cd lZ lZ bq 508 509 510 141 5 0 0 3 217 true 181 218 .none (.ref 219) (.ref 220) (.ref 221) 518 141 519
def qB:=HD.fu lZ lZ (ht 33) eX 432 222
noncomputable def Oa:List Stmt:=[ht 21,ht 22,ht 23,ht 24,ht 25,ht 26,ht 27,ht 28,ht 29,ht 30,ht 31,ht 32,ht 33]
noncomputable def RP(P:Params):BT:=(HD.zF [ae,aL,rS,ae,Bf,pe,qD,ae,aL,qZ,qJ,AD,pL,pG,ae,aL,rm,ae,BH,qj,qO,ae,aL,qX,ae,BZ,qU,qp,ae,aL,qg,ae,Bb,pN,pC,ae,aL,qW,ae,zX,oS,pD,ae,aL,qk,ae,Bt,ph,pO,ae,aL,oP,ae,A1,rH,rR,ae,aL,CP,CB,As,ae,aL,AN,ae,B7,B9,Bu,ae,aL,Ae,qi,p8,ae,aL,rC,ae,Ay,qP,qB] (((Rx P).ins (nat_lit 3) (Ly P)).ins (nat_lit 12) (FA)) (nat_lit 144))
noncomputable abbrev JI(w:World)(os:OsState):SharedT:=⟨RP w.params,nat_lit 224,u3,Array.mk [],⟨0,0,0,0⟩,nat_lit 521,os⟩
noncomputable def Sf:HD.ik (HD.F4):=λw=>(λos=>segRunT treeTable pw w (nat_lit 11) (some (.ref 6)) (nat_lit 1) (nat_lit 378) (Fi w os) (piecesOf Oa jG eQ ⟨65,0,69,38⟩ hG),λos=>some (Flow.next,JI w os,eQ,⟨141,0,150,121⟩))
theorem G3:HD.seg pw (nat_lit 11) (some (.ref 6)) (nat_lit 378) Fi JI Oa jG eQ ⟨65,0,69,38⟩ ⟨141,0,150,121⟩ hG=Sf:=by kernel_rfl
name_quick EW for Sf by G3
theorem TJ(w:World):(Fast.EW w).1=(Fast.EW w).2:=by kernel_rfl
theorem Va:HD.Ok (HD.seg pw (nat_lit 11) (some (.ref 6)) (nat_lit 378) Fi JI Oa jG eQ ⟨65,0,69,38⟩ ⟨141,0,150,121⟩ hG):=HD.lu Fast.EW_eq TJ
def EU:=HD.dm (Ly P) [HD.e P lJ 533 (.ref 230),HD.e P lW 547 (.ref 237)] 41
def E4:=HD.fa (FA) [(HD.i 151),(HD.i 0),(.ref 229),(HD.i 173),(HD.i 0),(.ref 236)]
def qa:=HD.tp [(.str GD 524),(.str My 525),(.str xp 526),(.str Mj 527),(.str FF 528),(.str Kl 529),(.str L7 530)]
def Ba:=HD.fs lJ lJ (ht 34)
def qL:=HD.cd lJ lJ bq 521 522 523 151 1 0 0 3 224 true 181 225 .none (.ref 226) (.ref 227) (.ref 228) 531 151 532
def pV:=HD.fu lJ lJ (ht 34) eX 432 229
def pS:=HD.tp [(.str Gx 537),(.str Gg 538),(.str xp 539),(.str FN 540),(.str Gr 541),(.str Gb 542),(.str Fy 543),(.str Lu 544)]
def CH:=HD.fs lW lW (ht 35)
def rT:=HD.cd lW lW bq 534 535 536 173 1 0 0 3 231 true 181 232 .none (.ref 233) (.ref 234) (.ref 235) 545 173 546
def qC:=HD.fu lW lW (ht 35) eX 432 236
noncomputable def N2:List Stmt:=[ht 34,ht 35]
noncomputable def Uw(P:Params):BT:=(HD.zF [ae,aL,qa,ae,Ba,qL,pV,ae,aL,pS,ae,CH,rT,qC] (((RP P).ins (nat_lit 3) (EU P)).ins (nat_lit 12) (E4)) (nat_lit 224))
noncomputable abbrev JN(w:World)(os:OsState):SharedT:=⟨Uw w.params,nat_lit 238,u3,Array.mk [],⟨0,0,0,0⟩,nat_lit 548,os⟩
noncomputable def Rj:HD.ik (HD.F4):=λw=>(λos=>segRunT treeTable pw w (nat_lit 11) (some (.ref 6)) (nat_lit 1) (nat_lit 72) (JI w os) (piecesOf N2 jG eQ ⟨141,0,150,121⟩ hG),λos=>some (Flow.next,JN w os,eQ,⟨173,0,188,19⟩))
theorem GK:HD.seg pw (nat_lit 11) (some (.ref 6)) (nat_lit 72) JI JN N2 jG eQ ⟨141,0,150,121⟩ ⟨173,0,188,19⟩ hG=Rj:=by kernel_rfl
name_quick E1 for Rj by GK
theorem Vc(w:World):(Fast.E1 w).1=(Fast.E1 w).2:=by kernel_rfl
theorem Tn:HD.Ok (HD.seg pw (nat_lit 11) (some (.ref 6)) (nat_lit 72) JI JN N2 jG eQ ⟨141,0,150,121⟩ ⟨173,0,188,19⟩ hG):=HD.lu Fast.E1_eq Vc
noncomputable def K9(r:List (Obj)):List (Obj):=PySem.W.boot_o_0 P::PySem.W.boot_o_1 P::PySem.W.boot_o_2 P::EU P::PySem.W.boot_o_4 P::PySem.W.boot_o_5 P::PySem.W.boot_o_6 P::PySem.W.boot_o_7 P::PySem.W.boot_o_8 P::PySem.W.boot_o_9 P::PySem.W.boot_o_10 P::ae::r
noncomputable def M5(r:List (Obj)):List (Obj):=E4::A9::CU::ae::aL::xj::ae::FH::wA::wc::xM::x8::r
noncomputable def MP(r:List (Obj)):List (Obj):=E3 P::ae::Gw::Gq::FW::ae::aL::we::ae::EX::v_::xO::r
noncomputable def Lq(r:List (Obj)):List (Obj):=ae::wI P::wM::xq::Fo::Ff::wg::x8::E6 P::ae::F6::Fg::r
noncomputable def Nz(r:List (Obj)):List (Obj):=Fp::ae::aL::wQ::ae::GA::xx::wD::ae::xD P::wJ::Fn::r
noncomputable def Kp(r:List (Obj)):List (Obj):=EZ::yg P::ae::ae::wa::xX::v9::ae::xn::xJ::ae::xH::r
noncomputable def Mi(r:List (Obj)):List (Obj):=xg::xc::wx::xU::wt::xW::xr::FJ P::ae::xu P::ae::aL::r
noncomputable def Nu(r:List (Obj)):List (Obj):=Fw::xl::wB::ae::aL::xC::ae::EY::xb::wb::ae::aL::r
noncomputable def KS(r:List (Obj)):List (Obj):=Fd::xf::wK::ae::aL::Cf::pX::rM::ae::aL::qA::ae::r
noncomputable def NF(r:List (Obj)):List (Obj):=Au::qY::p9::ae::aL::oY::ae::zW::p6::rN::ae::aL::r
noncomputable def Jx(r:List (Obj)):List (Obj):=rP::ae::Cc::qM::pd::ae::aL::pE::ae::A7::pP::qc::r
noncomputable def G2(r:List (Obj)):List (Obj):=ae::aL::CC::rG::oU::ae::aL::qy::rK::Ao::qF::pz::r
noncomputable def Jm(r:List (Obj)):List (Obj):=ae::aL::rS::ae::Bf::pe::qD::ae::aL::qZ::qJ::AD::r
noncomputable def H_(r:List (Obj)):List (Obj):=pL::pG::ae::aL::rm::ae::BH::qj::qO::ae::aL::qX::r
noncomputable def JD(r:List (Obj)):List (Obj):=ae::BZ::qU::qp::ae::aL::qg::ae::Bb::pN::pC::ae::r
noncomputable def Ia(r:List (Obj)):List (Obj):=aL::qW::ae::zX::oS::pD::ae::aL::qk::ae::Bt::ph::r
noncomputable def IC(r:List (Obj)):List (Obj):=pO::ae::aL::oP::ae::A1::rH::rR::ae::aL::CP::CB::r
noncomputable def JB(r:List (Obj)):List (Obj):=As::ae::aL::AN::ae::B7::B9::Bu::ae::aL::Ae::qi::r
noncomputable def GJ(r:List (Obj)):List (Obj):=p8::ae::aL::rC::ae::Ay::qP::qB::ae::aL::qa::ae::r
noncomputable def Jv(r:List (Obj)):List (Obj):=Ba::qL::pV::ae::aL::pS::ae::CH::rT::qC::r
noncomputable def C8(P:Params):Heap:=⟨Array.mk (K9 P (M5 (MP P (Lq P (Nz P (Kp P (Mi P (Nu (KS (NF (Jx (G2 (Jm (H_ (JD (Ia (IC (JB (GJ (Jv [])))))))))))))))))))),⟨[],[],[],0,[],[],false,#[],[],0,false,false,false,(.ofNat 0),[(.ofNat 2000),(.ofNat 10),(.ofNat 10)],false,0,true,[],[],0,false⟩⟩
noncomputable def Ic:Drawn:=⟨0,0,0,0⟩
noncomputable def GY:Nat:=nat_lit 548
noncomputable abbrev FV:World->OsState->Shared:=HD.LB C8 Ic GY
noncomputable def R5:HD.ik (Option Shared):=λw=>(λos=>topRun treeTable pw w (nat_lit 11) (some (.ref 6)) (nat_lit 2) (JN w os).abs (Thread.mk (doneF Flow.next) eQ ⟨173,0,188,19⟩ hG),λos=>some (FV w os))
theorem Ho:HD.fin pw (nat_lit 11) (some (.ref 6)) (nat_lit 2) JN FV (Thread.mk (doneF Flow.next) eQ ⟨173,0,188,19⟩ hG)=R5:=by kernel_rfl
name_quick FQ for R5 by Ho
theorem TZ(w:World):(Fast.FQ w).1=(Fast.FQ w).2:=by kernel_rfl
theorem V1:HD.Ok (HD.fin pw (nat_lit 11) (some (.ref 6)) (nat_lit 2) JN FV (Thread.mk (doneF Flow.next) eQ ⟨173,0,188,19⟩ hG)):=HD.lu Fast.FQ_eq TZ
theorem OQ:behindTheImports pw=(Om++(NS++(JR++(J3++(Oa++(N2++([]:List Stmt))))))):=by kernel_rfl
theorem Nc:HD.Goes pw (nat_lit 11) (some (.ref 6)) FV (nat_lit 12+(nat_lit 1+(nat_lit 255+(nat_lit 280+(nat_lit 340+(nat_lit 383+(nat_lit 378+(nat_lit 72+(nat_lit 2))))))))) Oq (topStub pw):=HD.K2 T_ (HD.Nj OQ UR (HD.oy VE (HD.oy Tj (HD.oy UU (HD.oy V2 (HD.oy Va (HD.oy Tn (HD.KZ (env:=jG) V1))))))))
noncomputable def hq:Program:=HD.view pw [ht 0,ht 2,ht 3,ht 5,ht 6,ht 7,ht 8,ht 9,ht 10,ht 11,ht 12,ht 13,ht 14,ht 15,ht 17,ht 18,ht 19,ht 20,ht 21,ht 22,ht 24,ht 25,ht 26,ht 27,ht 28,ht 29,ht 30,ht 31,ht 32,ht 33,ht 34,ht 35]
noncomputable def hl:List Str:=[PySem.Str.ofString "KIDS_DUE",PySem.Str.ofString "BINDER_OVER"]
noncomputable def LV(r:List (Addr×Obj)):List (Addr×Obj):=(nat_lit 2,PySem.W.boot_o_2 P)::(nat_lit 3,EU P)::(nat_lit 15,ae)::(nat_lit 17,xj)::(nat_lit 18,ae)::(nat_lit 20,wA)::(nat_lit 21,wc)::(nat_lit 22,xM)::(nat_lit 29,ae)::(nat_lit 31,we)::(nat_lit 32,ae)::(nat_lit 34,v_)::r
noncomputable def LH(r:List (Addr×Obj)):List (Addr×Obj):=(nat_lit 35,xO)::(nat_lit 36,ae)::(nat_lit 37,wI P)::(nat_lit 38,wM)::(nat_lit 39,xq)::(nat_lit 42,wg)::(nat_lit 49,ae)::(nat_lit 51,wQ)::(nat_lit 52,ae)::(nat_lit 54,xx)::(nat_lit 55,wD)::(nat_lit 56,ae)::r
noncomputable def Lg(r:List (Addr×Obj)):List (Addr×Obj):=(nat_lit 57,xD P)::(nat_lit 58,wJ)::(nat_lit 61,yg P)::(nat_lit 62,ae)::(nat_lit 63,ae)::(nat_lit 64,wa)::(nat_lit 65,xX)::(nat_lit 66,v9)::(nat_lit 67,ae)::(nat_lit 68,xn)::(nat_lit 69,xJ)::(nat_lit 70,ae)::r
noncomputable def M_(r:List (Addr×Obj)):List (Addr×Obj):=(nat_lit 71,xH)::(nat_lit 72,xg)::(nat_lit 73,xc)::(nat_lit 74,wx)::(nat_lit 75,xU)::(nat_lit 76,wt)::(nat_lit 77,xW)::(nat_lit 78,xr)::(nat_lit 80,ae)::(nat_lit 81,xu P)::(nat_lit 82,ae)::(nat_lit 85,xl)::r
noncomputable def Ks(r:List (Addr×Obj)):List (Addr×Obj):=(nat_lit 86,wB)::(nat_lit 87,ae)::(nat_lit 89,xC)::(nat_lit 90,ae)::(nat_lit 92,xb)::(nat_lit 93,wb)::(nat_lit 94,ae)::(nat_lit 97,xf)::(nat_lit 98,wK)::(nat_lit 99,ae)::(nat_lit 102,pX)::(nat_lit 103,rM)::r
noncomputable def Nm(r:List (Addr×Obj)):List (Addr×Obj):=(nat_lit 104,ae)::(nat_lit 106,qA)::(nat_lit 107,ae)::(nat_lit 109,qY)::(nat_lit 110,p9)::(nat_lit 111,ae)::(nat_lit 113,oY)::(nat_lit 114,ae)::(nat_lit 116,p6)::(nat_lit 117,rN)::(nat_lit 118,ae)::(nat_lit 120,rP)::r
noncomputable def Kq(r:List (Addr×Obj)):List (Addr×Obj):=(nat_lit 121,ae)::(nat_lit 123,qM)::(nat_lit 124,pd)::(nat_lit 125,ae)::(nat_lit 127,pE)::(nat_lit 128,ae)::(nat_lit 130,pP)::(nat_lit 131,qc)::(nat_lit 132,ae)::(nat_lit 135,rG)::(nat_lit 136,oU)::(nat_lit 137,ae)::r
noncomputable def La(r:List (Addr×Obj)):List (Addr×Obj):=(nat_lit 139,qy)::(nat_lit 140,rK)::(nat_lit 142,qF)::(nat_lit 143,pz)::(nat_lit 144,ae)::(nat_lit 146,rS)::(nat_lit 147,ae)::(nat_lit 149,pe)::(nat_lit 150,qD)::(nat_lit 151,ae)::(nat_lit 153,qZ)::(nat_lit 154,qJ)::r
noncomputable def Kh(r:List (Addr×Obj)):List (Addr×Obj):=(nat_lit 156,pL)::(nat_lit 157,pG)::(nat_lit 158,ae)::(nat_lit 160,rm)::(nat_lit 161,ae)::(nat_lit 163,qj)::(nat_lit 164,qO)::(nat_lit 165,ae)::(nat_lit 167,qX)::(nat_lit 168,ae)::(nat_lit 170,qU)::(nat_lit 171,qp)::r
noncomputable def LM(r:List (Addr×Obj)):List (Addr×Obj):=(nat_lit 172,ae)::(nat_lit 174,qg)::(nat_lit 175,ae)::(nat_lit 177,pN)::(nat_lit 178,pC)::(nat_lit 179,ae)::(nat_lit 181,qW)::(nat_lit 182,ae)::(nat_lit 184,oS)::(nat_lit 185,pD)::(nat_lit 186,ae)::(nat_lit 188,qk)::r
noncomputable def IU(r:List (Addr×Obj)):List (Addr×Obj):=(nat_lit 189,ae)::(nat_lit 191,ph)::(nat_lit 192,pO)::(nat_lit 193,ae)::(nat_lit 195,oP)::(nat_lit 196,ae)::(nat_lit 198,rH)::(nat_lit 199,rR)::(nat_lit 212,ae)::(nat_lit 215,qi)::(nat_lit 216,p8)::(nat_lit 217,ae)::r
noncomputable def Ii(r:List (Addr×Obj)):List (Addr×Obj):=(nat_lit 219,rC)::(nat_lit 220,ae)::(nat_lit 222,qP)::(nat_lit 223,qB)::(nat_lit 224,ae)::(nat_lit 226,qa)::(nat_lit 227,ae)::(nat_lit 229,qL)::(nat_lit 230,pV)::(nat_lit 231,ae)::(nat_lit 233,pS)::(nat_lit 234,ae)::r
noncomputable def G9(r:List (Addr×Obj)):List (Addr×Obj):=(nat_lit 236,rT)::(nat_lit 237,qC)::r
noncomputable def OF(P:Params):List (Addr×Obj):=(LV P (LH P (Lg P (M_ P (Ks (Nm (Kq (La (Kh (LM (IU (Ii (G9 [])))))))))))))
noncomputable def UH(P:Params):Frag:=(nat_lit 2,PySem.W.boot_o_2 P)::(nat_lit 3,EU P)::(nat_lit 15,ae)::(nat_lit 17,xj)::(nat_lit 18,ae)::(nat_lit 20,wA)::(nat_lit 21,wc)::(nat_lit 22,xM)::(nat_lit 29,ae)::(nat_lit 31,we)::(nat_lit 32,ae)::(nat_lit 34,v_)::(nat_lit 35,xO)::(nat_lit 36,ae)::(nat_lit 37,wI P)::(nat_lit 38,wM)::(nat_lit 39,xq)::(nat_lit 42,wg)::(nat_lit 49,ae)::(nat_lit 51,wQ)::(nat_lit 52,ae)::(nat_lit 54,xx)::(nat_lit 55,wD)::(nat_lit 56,ae)::(nat_lit 57,xD P)::(nat_lit 58,wJ)::(nat_lit 61,yg P)::(nat_lit 62,ae)::(nat_lit 63,ae)::(nat_lit 64,wa)::(nat_lit 65,xX)::(nat_lit 66,v9)::(nat_lit 67,ae)::(nat_lit 68,xn)::(nat_lit 69,xJ)::(nat_lit 70,ae)::(nat_lit 71,xH)::(nat_lit 72,xg)::(nat_lit 73,xc)::(nat_lit 74,wx)::(nat_lit 75,xU)::(nat_lit 76,wt)::(nat_lit 77,xW)::(nat_lit 78,xr)::(nat_lit 80,ae)::(nat_lit 81,xu P)::(nat_lit 82,ae)::(nat_lit 85,xl)::(nat_lit 86,wB)::(nat_lit 87,ae)::(nat_lit 89,xC)::(nat_lit 90,ae)::(nat_lit 92,xb)::(nat_lit 93,wb)::(nat_lit 94,ae)::(nat_lit 97,xf)::(nat_lit 98,wK)::(nat_lit 99,ae)::(nat_lit 102,pX)::(nat_lit 103,rM)::(nat_lit 104,ae)::(nat_lit 106,qA)::(nat_lit 107,ae)::(nat_lit 109,qY)::(nat_lit 110,p9)::(nat_lit 111,ae)::(nat_lit 113,oY)::(nat_lit 114,ae)::(nat_lit 116,p6)::(nat_lit 117,rN)::(nat_lit 118,ae)::(nat_lit 120,rP)::(nat_lit 121,ae)::(nat_lit 123,qM)::(nat_lit 124,pd)::(nat_lit 125,ae)::(nat_lit 127,pE)::(nat_lit 128,ae)::(nat_lit 130,pP)::(nat_lit 131,qc)::(nat_lit 132,ae)::(nat_lit 135,rG)::(nat_lit 136,oU)::(nat_lit 137,ae)::(nat_lit 139,qy)::(nat_lit 140,rK)::(nat_lit 142,qF)::(nat_lit 143,pz)::(nat_lit 144,ae)::(nat_lit 146,rS)::(nat_lit 147,ae)::(nat_lit 149,pe)::(nat_lit 150,qD)::(nat_lit 151,ae)::(nat_lit 153,qZ)::(nat_lit 154,qJ)::(nat_lit 156,pL)::(nat_lit 157,pG)::(nat_lit 158,ae)::(nat_lit 160,rm)::(nat_lit 161,ae)::(nat_lit 163,qj)::(nat_lit 164,qO)::(nat_lit 165,ae)::(nat_lit 167,qX)::(nat_lit 168,ae)::(nat_lit 170,qU)::(nat_lit 171,qp)::(nat_lit 172,ae)::(nat_lit 174,qg)::(nat_lit 175,ae)::(nat_lit 177,pN)::(nat_lit 178,pC)::(nat_lit 179,ae)::(nat_lit 181,qW)::(nat_lit 182,ae)::(nat_lit 184,oS)::(nat_lit 185,pD)::(nat_lit 186,ae)::(nat_lit 188,qk)::(nat_lit 189,ae)::(nat_lit 191,ph)::(nat_lit 192,pO)::(nat_lit 193,ae)::(nat_lit 195,oP)::(nat_lit 196,ae)::(nat_lit 198,rH)::(nat_lit 199,rR)::(nat_lit 212,ae)::(nat_lit 215,qi)::(nat_lit 216,p8)::(nat_lit 217,ae)::(nat_lit 219,rC)::(nat_lit 220,ae)::(nat_lit 222,qP)::(nat_lit 223,qB)::(nat_lit 224,ae)::(nat_lit 226,qa)::(nat_lit 227,ae)::(nat_lit 229,qL)::(nat_lit 230,pV)::(nat_lit 231,ae)::(nat_lit 233,pS)::(nat_lit 234,ae)::(nat_lit 236,rT)::(nat_lit 237,qC)::[]
noncomputable def Rr:List Addr:=[nat_lit 2,nat_lit 3,nat_lit 15,nat_lit 17,nat_lit 18,nat_lit 20,nat_lit 21,nat_lit 22,nat_lit 29,nat_lit 31,nat_lit 32,nat_lit 34,nat_lit 35,nat_lit 36,nat_lit 37,nat_lit 38,nat_lit 39,nat_lit 42,nat_lit 49,nat_lit 51,nat_lit 52,nat_lit 54,nat_lit 55,nat_lit 56,nat_lit 57,nat_lit 58,nat_lit 61,nat_lit 62,nat_lit 63,nat_lit 64,nat_lit 65,nat_lit 66,nat_lit 67,nat_lit 68,nat_lit 69,nat_lit 70,nat_lit 71,nat_lit 72,nat_lit 73,nat_lit 74,nat_lit 75,nat_lit 76,nat_lit 77,nat_lit 78,nat_lit 80,nat_lit 81,nat_lit 82,nat_lit 85,nat_lit 86,nat_lit 87,nat_lit 89,nat_lit 90,nat_lit 92,nat_lit 93,nat_lit 94,nat_lit 97,nat_lit 98,nat_lit 99,nat_lit 102,nat_lit 103,nat_lit 104,nat_lit 106,nat_lit 107,nat_lit 109,nat_lit 110,nat_lit 111,nat_lit 113,nat_lit 114,nat_lit 116,nat_lit 117,nat_lit 118,nat_lit 120,nat_lit 121,nat_lit 123,nat_lit 124,nat_lit 125,nat_lit 127,nat_lit 128,nat_lit 130,nat_lit 131,nat_lit 132,nat_lit 135,nat_lit 136,nat_lit 137,nat_lit 139,nat_lit 140,nat_lit 142,nat_lit 143,nat_lit 144,nat_lit 146,nat_lit 147,nat_lit 149,nat_lit 150,nat_lit 151,nat_lit 153,nat_lit 154,nat_lit 156,nat_lit 157,nat_lit 158,nat_lit 160,nat_lit 161,nat_lit 163,nat_lit 164,nat_lit 165,nat_lit 167,nat_lit 168,nat_lit 170,nat_lit 171,nat_lit 172,nat_lit 174,nat_lit 175,nat_lit 177,nat_lit 178,nat_lit 179,nat_lit 181,nat_lit 182,nat_lit 184,nat_lit 185,nat_lit 186,nat_lit 188,nat_lit 189,nat_lit 191,nat_lit 192,nat_lit 193,nat_lit 195,nat_lit 196,nat_lit 198,nat_lit 199,nat_lit 212,nat_lit 215,nat_lit 216,nat_lit 217,nat_lit 219,nat_lit 220,nat_lit 222,nat_lit 223,nat_lit 224,nat_lit 226,nat_lit 227,nat_lit 229,nat_lit 230,nat_lit 231,nat_lit 233,nat_lit 234,nat_lit 236,nat_lit 237]
noncomputable def hX(s:Shared):Bool:=xlAt hq [] s&&recOk [] s
noncomputable def HN:List Addr:=[nat_lit 152,nat_lit 138]
noncomputable abbrev hH:Hook:=kmHook UH Rr (λ_=>by kernel_rfl) HN
noncomputable def SN:HD.ik ((Bool×Nat×Option Value)):=λw=>(λos=>((boot_heap w.params).isNs mainGlobals&&(Array.mk []:Array GenState).size==0,(boot_heap w.params).objs.size,(boot_heap w.params).nsMap mainGlobals "__annotations__"),λos=>(true,(nat_lit 11),(some (.ref 6))))
theorem He:HD.sz (nat_lit 11) (some (.ref 6))=SN:=by kernel_rfl
name_quick Gn for SN by He
theorem Vj(w:World):(Fast.Gn w).1=(Fast.Gn w).2:=by kernel_rfl
theorem Vb:HD.Ok (HD.sz (nat_lit 11) (some (.ref 6))):=HD.lu Fast.Gn_eq Vj
noncomputable def Ky:HD.ik (Bool):=λw=>(λos=>(staticsOk (importedModules pw.main.body) (boot_heap w.params) (C8 w.params)&&namesBound pw (C8 w.params)&&gensDone (FV w os)&&laidKept (boot_heap w.params) (C8 w.params)),λos=>true)
theorem Eg:HD.la pw C8 Ic GY=Ky:=by kernel_rfl
name_quick BM for Ky by Eg
theorem Rf(w:World):(Fast.BM w).1=(Fast.BM w).2:=by kernel_rfl
theorem PD:HD.Ok (HD.la pw C8 Ic GY):=HD.lu Fast.BM_eq Rf
noncomputable def Ls(w:World):=((λos:OsState=>openSeen hq hl (importedModules pw.main.body) hX true (FV w os)),(λ_:OsState=>openGood hq hl))
theorem DD:HD.lb pw hq hl hX C8 Ic GY=Ls:=by kernel_rfl
name_quick Ap for Ls by DD
theorem Qd(w:World):(Fast.Ap w).1=(Fast.Ap w).2:=by kernel_rfl
theorem Ra:HD.Ok (HD.lb pw hq hl hX C8 Ic GY):=HD.lu Fast.Ap_eq Qd
noncomputable def Mv:HD.ik ((List (Option Obj)×List (Option Obj))):=λw=>(λos=>(Rr.map (FV w os).heap.get?,HN.map (FV w os).heap.get?),λos=>((OF w.params).map λp=>some p.2,HN.map λ_=>some (tabObj #[])))
theorem D6:HD.lc hH C8 Ic GY=Mv:=by kernel_rfl
name_quick Ag for Mv by D6
theorem QV(w:World):(Fast.Ag w).1=(Fast.Ag w).2:=by kernel_rfl
theorem Qa:HD.Ok (HD.lc hH C8 Ic GY):=HD.lu Fast.Ag_eq QV
theorem hleft:LeftO pw hq hl hX hH.obs hH.val 3530:=HD.left (by kernel_rfl) (by decide) (λs=>by kernel_rfl) Vb Nc (by decide+kernel) PD Ra Qa
end K17
end
open PySem PySem.W PyProof.Rows
set_option maxRecDepth 100000 in
set_option maxHeartbeats 0 in
theorem PySem.Challenge.cw_keeper_k17_whole_putting_in_holds : PySem.Challenge.rw_keeper_k17_whole_putting_in.Holds := by
  w_on; o_law
  refine PySem.W.holds_open (q := K17.hq) (loose := K17.hl) (Xt := K17.hX) (XP := PySem.W.XL K17.hq []) (Yf := PySem.W.Hook.obs K17.hH) (Ya := PySem.W.Hook.val K17.hH) (YP := PySem.W.Hook.says K17.hH) (N := 3530) K17.hleft (PySem.W.Hook.of _) (PySem.W.Hook.keeps _) (fun s e => PySem.W.xl_of s (Bool.and_eq_true_iff.mp e).1) PySem.W.XL.keeps (by rfl) (by rfl) (by rfl) (fun s e => PySem.W.recFacts_of (Bool.and_eq_true_iff.mp e).2) (by rfl) (by assumption) (by decide +kernel) ⟨rfl, rfl, rfl, rfl, rfl, by decide +kernel⟩ ?hw ?hc
  case hw => w_witness2
  delta K17.hH
  k_fill
  refine' K17.walk (l := PySem.Challenge.rw_keeper_k17_whole_putting_in) (c1 := ?qc1) (T1 := ?qT1) (c2 := ?qc2) (T2 := ?qT2) rfl rfl (fun w h Y => PySem.W.km_in_of Y) ?h2_1 ?h3_1 ?h4_1 ?h2_2 ?h3_2 ?h4_2 ?hne12 ?F
  case F =>
    intro w mg fa h KX G hmg
    have h1_1 : PySem.W.tabIn (L2.KOf KX) "raised" = some (?qc1, ?qT1) := by
      dsimp only [L2.KOf]
      exact rfl
    have h2_1 : PySem.W.codeHdIn (L2.KOf KX) ?qc1 ?qT1 = true := by
      dsimp only [L2.KOf]
      kernel_rfl
    have h1_2 : PySem.W.tabIn (L2.KOf KX) "put_in" = some (?qc2, ?qT2) := by
      dsimp only [L2.KOf]
      exact rfl
    have h2_2 : PySem.W.codeHdIn (L2.KOf KX) ?qc2 ?qT2 = true := by
      dsimp only [L2.KOf]
      kernel_rfl
    have T : ∃ t, K17.Txt (L2.KOf KX) mg t := by
      dsimp only [L2.KOf]
      refine' K17.txt_mk KX G ?a0 ?a1 ?a2 ?a3 ?a4 ?a5 ?a6 ?a7 ?a8 ?a9 ?a10 ?a11 ?a12 ?a13 ?a14 ?a15 ?a16 ?a17 ?a18 ?a19 ?a20 ?a21 ?z_bool ?z_int ?z_isinstance ?z_len ?z_list ?z_max ?z_range ?z_set ?z_sorted ?z_tuple ?z_zip ?g_MOST_KNOTS ?g_MOST_DEEP ?g_MOST_VARIABLE ?g_KIDS_DUE ?lk_KIDS_DUE ?sy_KIDS_DUE ?ks_KIDS_DUE ?rf_KIDS_DUE ?u0_KIDS_DUE ?v0_KIDS_DUE ?u1_KIDS_DUE ?v1_KIDS_DUE ?u2_KIDS_DUE ?v2_KIDS_DUE ?u3_KIDS_DUE ?v3_KIDS_DUE ?u4_KIDS_DUE ?v4_KIDS_DUE ?u5_KIDS_DUE ?v5_KIDS_DUE ?u6_KIDS_DUE ?v6_KIDS_DUE ?u7_KIDS_DUE ?v7_KIDS_DUE ?u8_KIDS_DUE ?v8_KIDS_DUE ?u9_KIDS_DUE ?v9_KIDS_DUE ?u10_KIDS_DUE ?v10_KIDS_DUE ?u11_KIDS_DUE ?v11_KIDS_DUE ?u12_KIDS_DUE ?v12_KIDS_DUE ?u13_KIDS_DUE ?v13_KIDS_DUE ?u14_KIDS_DUE ?v14_KIDS_DUE ?u15_KIDS_DUE ?v15_KIDS_DUE ?u16_KIDS_DUE ?v16_KIDS_DUE ?u17_KIDS_DUE ?v17_KIDS_DUE ?g_BINDER_OVER ?lk_BINDER_OVER ?sy_BINDER_OVER ?vs_BINDER_OVER ?g_Great ?x_gr ?x_s1
      (case a0 => apply L3.dfi; iterate 4 k_is)
      (case a1 => apply L3.dfi; iterate 4 k_is)
      (case a2 => apply L3.dfi; iterate 4 k_is)
      (case a3 => apply L3.dfi; iterate 4 k_is)
      (case a4 => apply L3.dfi; iterate 4 k_is)
      (case a5 => apply L3.dfi; iterate 4 k_is)
      (case a6 => apply L3.dfi; iterate 4 k_is)
      (case a7 => apply L3.dfi; iterate 4 k_is)
      (case a8 => apply L3.dfi; iterate 4 k_is)
      (case a9 => apply L3.dfi; iterate 4 k_is)
      (case a10 => apply L3.dfi; iterate 4 k_is)
      (case a11 => apply L3.dfi; iterate 4 k_is)
      (case a12 => apply L3.dfi; iterate 4 k_is)
      (case a13 => apply L3.dfi; iterate 4 k_is)
      (case a14 => apply L3.dfi; iterate 4 k_is)
      (case a15 => apply L3.dfi; iterate 4 k_is)
      (case a16 => apply L3.dfi; iterate 4 k_is)
      (case a17 => apply L3.dfi; iterate 4 k_is)
      (case a18 => apply L3.dfi; iterate 4 k_is)
      (case a19 => apply L3.dfi; iterate 4 k_is)
      (case a20 => apply L3.dfi; iterate 4 k_is)
      (case a21 => apply L3.dfi; iterate 4 k_is)
      (case z_bool => k_is)
      (case z_int => k_is)
      (case z_isinstance => k_is)
      (case z_len => k_is)
      (case z_list => k_is)
      (case z_max => k_is)
      (case z_range => k_is)
      (case z_set => k_is)
      (case z_sorted => k_is)
      (case z_tuple => k_is)
      (case z_zip => k_is)
      (case g_MOST_KNOTS => k_is)
      (case g_MOST_DEEP => k_is)
      (case g_MOST_VARIABLE => k_is)
      (case g_KIDS_DUE => k_is)
      (case lk_KIDS_DUE => k_is)
      (case sy_KIDS_DUE => decide +kernel)
      (case ks_KIDS_DUE => kernel_rfl)
      (case rf_KIDS_DUE => (dsimp only [HD.e]; rfl))
      (case u0_KIDS_DUE => k_is)
      (case v0_KIDS_DUE => decide +kernel)
      (case u1_KIDS_DUE => k_is)
      (case v1_KIDS_DUE => decide +kernel)
      (case u2_KIDS_DUE => k_is)
      (case v2_KIDS_DUE => decide +kernel)
      (case u3_KIDS_DUE => k_is)
      (case v3_KIDS_DUE => decide +kernel)
      (case u4_KIDS_DUE => k_is)
      (case v4_KIDS_DUE => decide +kernel)
      (case u5_KIDS_DUE => k_is)
      (case v5_KIDS_DUE => decide +kernel)
      (case u6_KIDS_DUE => k_is)
      (case v6_KIDS_DUE => decide +kernel)
      (case u7_KIDS_DUE => k_is)
      (case v7_KIDS_DUE => decide +kernel)
      (case u8_KIDS_DUE => k_is)
      (case v8_KIDS_DUE => decide +kernel)
      (case u9_KIDS_DUE => k_is)
      (case v9_KIDS_DUE => decide +kernel)
      (case u10_KIDS_DUE => k_is)
      (case v10_KIDS_DUE => decide +kernel)
      (case u11_KIDS_DUE => k_is)
      (case v11_KIDS_DUE => decide +kernel)
      (case u12_KIDS_DUE => k_is)
      (case v12_KIDS_DUE => decide +kernel)
      (case u13_KIDS_DUE => k_is)
      (case v13_KIDS_DUE => decide +kernel)
      (case u14_KIDS_DUE => k_is)
      (case v14_KIDS_DUE => decide +kernel)
      (case u15_KIDS_DUE => k_is)
      (case v15_KIDS_DUE => decide +kernel)
      (case u16_KIDS_DUE => k_is)
      (case v16_KIDS_DUE => decide +kernel)
      (case u17_KIDS_DUE => k_is)
      (case v17_KIDS_DUE => decide +kernel)
      (case g_BINDER_OVER => k_is)
      (case lk_BINDER_OVER => k_is)
      (case sy_BINDER_OVER => decide +kernel)
      (case vs_BINDER_OVER => kernel_rfl)
      (case g_Great => k_is)
      (case x_gr => kernel_rfl)
      (case x_s1 => k_is)
    obtain ⟨t, T⟩ := T
    exact K17.fin KX G h1_1 h2_1 h1_2 h2_2 T hmg
  case h2_1 => intro w; kernel_rfl
  case h3_1 => intro w; kernel_rfl
  case h4_1 => exact fun w h Y => PySem.W.km_tabs_of Y _ (by decide)
  case h2_2 => intro w; kernel_rfl
  case h3_2 => intro w; kernel_rfl
  case h4_2 => exact fun w h Y => PySem.W.km_tabs_of Y _ (by decide)
  case hne12 => decide
