import PyProof.Rows.All
import Wide.All
import OpenK.AllK
import Wide.FinOn
import Lean
import PyProof.EqAt
import PyProof.EqKinds
import PyProof.TupleCall
import PyProof.ZipIter
import PyProof.Draws
import PyProof.TupleIter
import PySem.Value
import PyProof.NeKinds
import PyProof.ExcClass2
import PyProof.StationsW
import OpenK.KOwn
import KE.KIsAll
import PyProof.RulesAs
import PyProof.NsDelKeeps
import PyProof.PassesOwn
import PyProof.ExcArgsOwn
import PyProof.IsiH_list
import PyProof.EnumMake
import PyProof.EnumFor
import PyProof.WalksEnum
import PyProof.Rows.EnumRows
import PyProof.SumWalk
import PyProof.StrCalls6
import PyProof.StrLaws
import PyProof.StrLawsIn
import PyProof.StrLawsChain
import PyProof.StrCalls
import PyProof.Rows.StrJoin2
import PyProof.WalkInts
import KE.KDictOf
import KE.KEqDict
import PyProof.EqLayable
import PyProof.P3Eq
import PyProof.MeetsIn
import PyProof.MeetsStr2
import PyProof.StrOps2
import PyProof.CallStr
import KE.KIntText
import KE.KRevIter
import PyProof.Rows.StrInSeq3
import PyProof.Rows.SeqMore2
import KE.KNest
import KE.KNestM
import PyProof.FString
import PyProof.StrBlock
import PyProof.MaxThree
import PySem.Challenge.RW_keeper_k56_shown_word_by_word
set_option Elab.async false
set_option linter.all false
set_option maxRecDepth 100000
set_option bootstrap.genMatcherCode false
set_option genSizeOf false
set_option genSizeOfSpec false
set_option maxHeartbeats 8000000
open PySem renaming wpAny_bind->zQ00,wpAny_pure->zQ02,wpAny_field->c9,wpAny_call_entry->gj,wpAny_holding->eN,wpAny_newObj_type->iW
open PySem.Heap renaming get?_push_of_some->zQ01,lt_size->zQ07,get?_push_size->zQ11,get?_update_other->gF,size_push->zQ28,get?_update_self->mv
open List renaming getElem?_eq_getElem->zQ03,length_map->br,size_toArray->cw,length_append->cE,mem_cons_self->cT,mem_cons_of_mem->dB,length_cons->cU,map_append->cO,not_mem_nil->zQ16,map_cons->cF,getElem?_map->fi,append_assoc->fk,mem_append_right->kA,append_nil->gg,take_of_length_le->rj,mem_cons->zQ34,length_take->iP,lookup_cons->iO,mem_of_getElem?->rW,mem_append_left->sD,length_drop->ko
open Nat renaming le_refl->zQ04,lt_of_lt_of_le->eB,le_trans->cB,ne_of_lt->zQ23,zero_le->zQ27
open Bool renaming and_eq_true->bE,false_ne_true->dA
noncomputable section
section
namespace L2
open PySem PySem.Spec PyProof.Rows
theorem gH{n:Nat}(h:Nat.ble n 16777216=true):n<=sizeLine:=cB (Nat.le_of_ble_eq_true h) (by decide)
def HB(base:Heap)(A:Around):Prop:=A.handled=none\/∃a oe vs,A.handled=some (.ref a)/\base.get? a=some oe/\oe.data= .fields vs/\vs[2]?=some .none
def ZY(base:Heap)(pn:List (Addr×Obj))(A:Around):Prop:=A.handled=none\/∃a oe vs,A.handled=some (.ref a)/\(base.get? a=some oe\/(a,oe)∈pn)/\oe.data= .fields vs/\vs[2]?=some .none
theorem HB.toP{base:Heap}{pn:List (Addr×Obj)}{A:Around}(h:HB base A):ZY base pn A:=by
 rcases h with h|⟨a,oe,vs,b,c,d⟩;·exact .inl h
 ·exact .inr ⟨a,oe,vs,b, .inl c,d⟩
theorem yd:entryFor table "proto.unchain"=some Builtin.«proto.unchain»:=entryFor_of_tree (by kernel_rfl)
section
variable{prog:Program}{w:World}{A:Around}{E:Value->Shared->Prop}{s:Shared}{base:Heap}
theorem HB.mono{h h':Heap}(hb:HB h A)(e:∀a o,A.handled=some (.ref a)->h.get? a=some o->h'.get? a=some o):HB h' A:=by
 rcases hb with hb|⟨a,oe,vs,b,c,d⟩;·exact .inl hb
 ·exact .inr ⟨a,oe,vs,b,e a oe b c,d⟩
theorem ye{n a:Addr}{oe:Obj}{vs:Array Value}{Q:Value->Shared->Prop}(he:s.heap.get? a=some oe)(hd:oe.data= .fields vs)(h2:vs[2]?=some .none)(h:Q .none s):wpAny (model prog w) A (runValue (.builtin "proto.unchain" ⟨[.ref n, .ref a, .ref a, .bool false],[]⟩)) Q E s:=by refine wpAny_runValue (codeAny_builtin yd ?_);show wpAny _ _ (field (.ref a) 2>>=_) _ _ s;refine zQ00 (c9 he hd h2 ?_);rw[if_pos (show(Value.none==Value.none)=true by rfl)];exact zQ02 h
theorem eG{f:Type}{Q:f->Shared->Prop}(hb:HB s.heap A)(d:∀h' e,(∀b o,s.heap.get? b=some o->h'.get? b=some o)->(∃o,h'.get? e=some o/\o.cls= .type "StopIteration")->E (.ref e) {s with heap:=h'}):wpAny (model prog w) A (newExc (.type "StopIteration") []>>=λe=>(raiseNew e:Sem f)) Q E s:=by
 refine zQ00 ?_;simp only[newExc,newTuple];refine zQ00 (iW ?_ (by size_fits));refine zQ00 (m:=firstArgMember _ _) (wpAny_of_eq (a:=Value.none) (by first|rfl|(simp only[firstArgMember];rfl)) ?_);refine iW ?_ (by size_fits);simp only[raiseNew];refine zQ00 (wpAny_handled ?_);rcases hb with hb|⟨a,oe,vs,hb,g,h,i⟩;·rw[hb];refine zQ00 (zQ02 (wpAny_throw (d _ _ (λb o e=>zQ01 _ (zQ01 _ e)) ⟨_,zQ11 _ rfl,rfl⟩)))
 ·rw[hb];have c:=g;have lt:=zQ07 c;have ne:a≠(s.heap.push {cls:= .type "tuple",data:= .seq #[]}).objs.size:=by rw[zQ28];exact zQ23 (Nat.lt_succ_of_lt lt)
  dsimp only;rw[if_pos (by simpa using ne)];refine zQ00 (eN (ye (zQ01 _ (zQ01 _ c)) h i ?_));refine zQ00 ?_;show wpAny (model prog w) A (setField (.ref _) 2 (.ref a)) _ _ _;refine wpAny_setField (zQ11 _ rfl) rfl (by simp;lia) (wpAny_throw (d _ _ (λb o e=>?_) ⟨_,mv _ (zQ11 _ rfl) (Obj.isFreed_of_fields (Obj.data_mapFields rfl _)),Obj.cls_mapFields _ _⟩));rw[gF _ _ ?_];·exact zQ01 _ (zQ01 _ e)
  ·have :=zQ07 e;intro z;rw[<-z,zQ28]at this;exact Nat.not_succ_lt_self this
theorem jh{Q:Bool->Shared->Prop}{h':Heap}{e:Addr}(he:∃o,h'.get? e=some o/\o.cls= .type "StopIteration")(h:Q true {s with heap:=h'}):wpAny (model prog w) A (isInstance (.ref e) (.type "StopIteration")) Q E {s with heap:=h'}:=by obtain⟨o,ho,hc⟩:=he;exact wpAny_isInstance (T:="StopIteration") (b:=true) ⟨o,ho,hc⟩ isSubtype_stop h
theorem HB.upd{it:Addr}{f:Obj->Obj}(hb:HB s.heap A)(d:∀a,A.handled=some (.ref a)->a≠it):HB (s.heap.update it f) A:=hb.mono λa o b c=>(gF _ _ (Ne.symm (d a b))).trans c
theorem jj{it:Addr}{f:Obj->Obj}{h':Heap}(k:∀b o,(s.heap.update it f).get? b=some o->h'.get? b=some o):Heap.ExtBut it s.heap h':=λb o hb e=>k b o ((gF _ _ (Ne.symm hb)).trans e)
theorem iE{it l:Addr}{i:Nat}{items:Array Value}{Q:Option Value->Shared->Prop}(hb:HB s.heap A)(f:∀a,A.handled=some (.ref a)->a≠it)(b:s.heap.IsListIter it l i)(hl:s.heap.IsList l items)(d:items[i]?=none)(c:∀h',Heap.ExtBut it s.heap h'->Q none {s with heap:=h'}):wpAny (model prog w) A (pyNext (.ref it)) Q E s:=by obtain⟨o,ho,hc,hd⟩:=id b;obtain⟨ol,hol,_,nl,hdl⟩:=hl;unfold pyNext;refine zQ00 (wpAny_attempt (wpAny_callSpecial?_slot (name:=Str.ofString "__next__") b.typeIs slot_listiter_next (gj slot_listiter_next b.typeIs entry_listiter_next ?_ (args_listiter_next _))));show wpAny (model prog w) _ (field (.ref it) 0>>=_) _ _ s;refine zQ00 (c9 ho hd (x:= .ref l) rfl ?_);show wpAny (model prog w) _ (if(Value.ref l==Value.none)=true then _ else _) _ _ s;rw[if_neg (show¬(Value.ref l==Value.none)=true from dA)];show wpAny (model prog w) _ (field (.ref it) 1>>=_) _ _ s;refine zQ00 (c9 ho hd (x:= .int i 0) rfl ?_);show wpAny (model prog w) _ (seqItems? (.ref l)>>=_) _ _ s;refine zQ00 (wpAny_seqItems hol hdl ?_);simp only[Int.toNat_natCast,d];refine zQ00 (wpAny_rule (zQ00 (wpAny_setField ho hd (by simp) ?_)));exact eG (A:=A.in1) (hb.upd f) λh' e k he=>zQ00 (jh he (zQ02 (c h' (jj k))))
theorem next_tuple_end{it l:Addr}{i:Nat}{items:Array Value}{Q:Option Value->Shared->Prop}(hb:HB s.heap A)(f:∀a,A.handled=some (.ref a)->a≠it)(b:s.heap.IsTupleIter it l i)(hl:s.heap.IsTuple l items)(d:items[i]?=none)(c:∀h',Heap.ExtBut it s.heap h'->Q none {s with heap:=h'}):wpAny (model prog w) A (pyNext (.ref it)) Q E s:=by obtain⟨o,ho,hc,hd⟩:=id b;obtain⟨ol,hol,_,nl,hdl⟩:=hl;unfold pyNext;refine zQ00 (wpAny_attempt (wpAny_callSpecial?_slot (name:=Str.ofString "__next__") b.typeIs F.slot_tuple_iterator_next (gj F.slot_tuple_iterator_next b.typeIs F.entry_tuple_iterator_next ?_ (F.args_tuple_iterator_next_1 _))));show wpAny (model prog w) _ (field (.ref it) 0>>=_) _ _ s;refine zQ00 (c9 ho hd (x:= .ref l) rfl ?_);show wpAny (model prog w) _ (if(Value.ref l==Value.none)=true then _ else _) _ _ s;rw[if_neg (show¬(Value.ref l==Value.none)=true from dA)];show wpAny (model prog w) _ (field (.ref it) 1>>=_) _ _ s;refine zQ00 (c9 ho hd (x:= .int i 0) rfl ?_);show wpAny (model prog w) _ (seqItems? (.ref l)>>=_) _ _ s;refine zQ00 (wpAny_seqItems hol hdl ?_);simp only[Int.toNat_natCast,d];refine zQ00 (wpAny_rule (zQ00 (wpAny_setField ho hd (by simp) ?_)));exact eG (A:=A.in1) (hb.upd f) λh' e k he=>zQ00 (jh he (zQ02 (c h' (jj k))))
theorem rn{it:Addr}{x left step:Int}{Q:Option Value->Shared->Prop}(hb:HB s.heap A)(a:IsRangeIter s.heap it x left step)(hleft:left<=0)(d:∀h',Heap.ExtBut it s.heap h'->Q none {s with heap:=h'}):wpAny (model prog w) A (pyNext (.ref it)) Q E s:=by have hT:s.TypeIs (.ref it) "range_iterator":=⟨_,a,rfl⟩;unfold pyNext;refine zQ00 (wpAny_attempt (wpAny_callSpecial?_slot (name:=Str.ofString "__next__") hT F.slot_range_iterator_next (gj F.slot_range_iterator_next hT F.entry_range_iterator_next ?_ (F.args_range_iterator_next_1 _))));show wpAny (model prog w) _ (field (.ref it) 0>>=_) _ _ s;refine zQ00 (c9 a rfl (x:=rawInt x) rfl ?_);show wpAny (model prog w) _ (field (.ref it) 1>>=_) _ _ s;refine zQ00 (c9 a rfl (x:=rawInt left) rfl ?_);show wpAny (model prog w) _ (field (.ref it) 2>>=_) _ _ s;refine zQ00 (c9 a rfl (x:=rawInt step) rfl ?_);show wpAny (model prog w) _ (if left<=0 then _ else _) _ _ s;rw[if_pos hleft];refine zQ00 (wpAny_rule ?_);refine zQ00 ?_;exact eG (A:=A.in1) hb λh' e k he=>zQ00 (jh he (zQ02 (d h' λb o _ c=>k b o c)))
theorem qT{it:Addr}{x:Str}{t:Tok}{i:Nat}{Q:Option Value->Shared->Prop}(hb:HB s.heap A)(f:∀a,A.handled=some (.ref a)->a≠it)(b:s.heap.IsStrIter it "str_ascii_iterator" x t i)(d:x.cps[i]?=none)(c:∀h',Heap.ExtBut it s.heap h'->Q none {s with heap:=h'}):wpAny (model prog w) A (pyNext (.ref it)) Q E s:=by obtain⟨o,ho,hc,hd⟩:=id b;unfold pyNext;refine zQ00 (wpAny_attempt (wpAny_callSpecial?_slot (name:=Str.ofString "__next__") b.typeIs F.slot_str_ascii_iterator_next (gj F.slot_str_ascii_iterator_next b.typeIs F.entry_str_ascii_iterator_next ?_ (F.args_str_ascii_iterator_next_1 _))));show wpAny (model prog w) _ (field (.ref it) 0>>=_) _ _ s;refine zQ00 (c9 ho hd (x:= .str x t) rfl ?_);show wpAny (model prog w) _ (field (.ref it) 1>>=_) _ _ s;refine zQ00 (c9 ho hd (x:= .int i 0) rfl ?_);simp only[Int.toNat_natCast,d];refine zQ00 (wpAny_rule (zQ00 (wpAny_setField ho hd (by simp) (zQ00 (wpAny_letGo ?_)))));exact eG (A:=A.in1) (hb.upd f) λh' e k he=>zQ00 (jh he (zQ02 (c h' (jj k))))
theorem sC{it:Addr}{x:Str}{t:Tok}{i:Nat}{Q:Option Value->Shared->Prop}(hb:HB s.heap A)(f:∀a,A.handled=some (.ref a)->a≠it)(b:s.heap.IsStrIter it "str_iterator" x t i)(d:x.cps[i]?=none)(c:∀h',Heap.ExtBut it s.heap h'->Q none {s with heap:=h'}):wpAny (model prog w) A (pyNext (.ref it)) Q E s:=by obtain⟨o,ho,hc,hd⟩:=id b;unfold pyNext;refine zQ00 (wpAny_attempt (wpAny_callSpecial?_slot (name:=Str.ofString "__next__") b.typeIs F.slot_str_iterator_next (gj F.slot_str_iterator_next b.typeIs F.entry_str_iterator_next ?_ (F.args_str_iterator_next_1 _))));show wpAny (model prog w) _ (field (.ref it) 0>>=_) _ _ s;refine zQ00 (c9 ho hd (x:= .str x t) rfl ?_);show wpAny (model prog w) _ (field (.ref it) 1>>=_) _ _ s;refine zQ00 (c9 ho hd (x:= .int i 0) rfl ?_);simp only[Int.toNat_natCast,d];refine zQ00 (wpAny_rule (zQ00 (wpAny_setField ho hd (by simp) (zQ00 (wpAny_letGo ?_)))));exact eG (A:=A.in1) (hb.upd f) λh' e k he=>zQ00 (jh he (zQ02 (c h' (jj k))))
theorem J5{t:Addr}{items:Array Value}{Q:List Value->Shared->Prop}(hb:HB s.heap A)(ht:s.heap.IsTuple t items)(j:∀h',Heap.ExtBut s.heap.objs.size s.heap h'->Q items.toList {s with heap:=h'}):wpAny (model prog w) A (unpackItems (.ref t) items.size none) Q E s:=by
 have hlt:t≠s.heap.objs.size:=by obtain⟨o,ho,_⟩:=ht;exact zQ23 (zQ07 ho)
 have g:∀a,A.handled=some (.ref a)->a≠s.heap.objs.size:=λa c=>by
  rcases hb with hb|⟨q,oe,vs,h,i,_⟩;·rw[hb]at c;cases c
  ·rw[h]at c;cases c;exact zQ23 (zQ07 i)
 unfold unpackItems;refine zQ00 ?_;unfold notIterableAtAll;refine zQ00 (wpAny_specialOf ht.typeIs F.slot_tuple_iter.lookup (zQ02 ?_));simp only[Bool.false_eq_true,if_false];refine zQ00 (eN (wpAny_pyIter_tuple ht ?_));refine zQ00 (eN (wpAny_draw_tuple hlt items.size 0 _ _ ⟨_,zQ11 _ rfl,rfl,rfl⟩ (ht.push _) (by lia) λf m d=>?_));rw[show List.take items.size (List.drop 0 items.toList)=items.toList by rw[List.drop_zero];exact rj (by simp),if_neg (by simp)];have n:f.IsTuple t items:=(ht.push _).extBut d.extBut hlt;have k:HB f A:=hb.mono λa o c eo=>d.extBut a o (g a c) (zQ01 _ eo);refine zQ00 (eN (next_tuple_end (s:={s with heap:=f}) k g m n (by simp) λp l=>?_));simp only[Option.isSome_none,Bool.false_eq_true,if_false];exact zQ02 (j p λb o hb e=>l b o hb (d.extBut b o hb (zQ01 _ e)))
theorem Kp{env:Env}{elts:List Expr}{c}{b:Pos}{t:Addr}{items:Array Value}{Q:Unit->Shared->Prop}(hb:HB s.heap A)(ht:s.heap.IsTuple t items)(hn:(assignEach elts env).length=items.size)(a:(assignEach elts env).findIdx? (·.1)=none)(h:∀h',Heap.ExtBut s.heap.objs.size s.heap h'->wpAny (model prog w) A (assignInOrder ((assignEach elts env).map (·.2)) items.toList) Q E {s with heap:=h'}):wpAny (model prog w) A (assign (.Tuple elts c b) env (.ref t)) Q E s:=by rw[arm_assign_Tuple];refine zQ00 (wpAny_standAt ?_);unfold unpack;rw[hn,a];exact zQ00 (eN (J5 hb ht h))
end
theorem y_{prog:Program}{w:World}{A:Around}{s:Shared}{Q:Option Value->Shared->Prop}{E:Value->Shared->Prop}{I:Addr}{a c:Int}{n i:Nat}(hi:i<n)(st:IsRangeIter s.heap I (a+(i:Nat)*c) ((n:Int)-(i:Nat)) c)(d:∀v h' tk,(∃t,v= .int (a+i*c) t)->IsRangeIter h' I (a+((i+1:Nat):Int)*c) ((n:Int)-((i+1:Nat):Int)) c->(∀b o,b∉[I]->s.heap.get? b=some o->h'.get? b=some o)->Q (some v) {s with heap:=h',toks:=tk}):wpAny (model prog w) A (pyNext (.ref I)) Q E s:=by refine wpAny_pyNext_range_item st (by lia) λh' f g=>d _ h' _ ⟨_,rfl⟩ ?_ λb o hb e=>g.extBut b o (λh=>hb (by simp[h])) e;rw[show a+((i+1:Nat):Int)*c=a+(i:Int)*c+c by push_cast;rw[Int.add_mul,Int.one_mul,Int.add_assoc],show(n:Int)-((i+1:Nat):Int)=(n:Int)-(i:Int)-1 by push_cast;lia];exact f
noncomputable def kg(A:Around):List Addr:=match A.handled with|some (.ref a)=>[a]|_=>[]
theorem rB{A:Around}{d:Addr}(h:d∈kg A):A.handled=some (.ref d):=by
 unfold kg at h;split at h;·rename_i a e;rw[List.mem_singleton.mp h];exact e
 ·cases h
theorem HB.frame{A:Around}{h h':Heap}(hb:HB h A)(k:∀b∈kg A,∀o,h.get? b=some o->h'.get? b=some o):HB h' A:=hb.mono λa o c eo=>k a (by unfold kg;rw[c];simp) o eo
theorem r9{prog:Program}{w:World}{A:Around}(I c:Addr)(hne:c≠I)(items:Array Value)(j:∀a,A.handled=some (.ref a)->a≠I):Walks prog w A I (I::c::kg A) [I] items.size (λi v=>items[i]?=some v) (λi h=>h.IsListIter I c i/\h.IsList c items/\HB h A)where
 sub:=λb hb=>by simp at hb;simp[hb]
 frame:=λ_ _ _ st f=>⟨st.1.at λo e=>f I (by simp) o e,st.2.1.at λo e=>f c (by simp) o e,st.2.2.frame λb hb=>f b (by simp[hb])⟩;item:=λi s Q E hi st d=>by refine wpAny_pyNext_list_item st.1 st.2.1 (x:=items[i]) (by simp[hi]) λh' l g=>?_;exact d _ h' s.toks (by simp[hi]) ⟨l,st.2.1.extBut g.extBut hne,st.2.2.mono λa o k eo=>g.extBut a o (j a k) eo⟩ λb o hb e=>g.extBut b o (λh=>hb (by simp[h])) e
 done:=λs Q E st d=>iE st.2.2 j st.1 st.2.1 (by simp) λh' he'=>d h' s.toks λb o hb e=>he' b o (λh=>hb (by simp[h])) e;self:=λ_ _ _ _ st d=>wpAny_pyIter_listiter st.1 d
noncomputable abbrev Key:=Sum Int Str
noncomputable def tU:Key->Value->Bool| .inl k,v=>Value.isInt k v| .inr x,v=>Value.isStrOf x v
noncomputable def Yu(w:World):Key->Int| .inl k=>hashInt k| .inr x=>hashStr w x
theorem bY:∀{k:Key}{v:Value},tU k v=true->(∃i t,k=Sum.inl i/\v=Value.int i t)\/(∃x t,k=Sum.inr x/\v=Value.str x t)| .inl i,v,h=>by obtain⟨t,e⟩:=Value.isInt_shape (k:=i) (v:=v) h;exact .inl ⟨i,t,rfl,e⟩| .inr x,v,h=>by obtain⟨t,e⟩:=Value.isStrOf_shape (x:=x) (v:=v) h;exact .inr ⟨x,t,rfl,e⟩
theorem CI(i:Int)(t:Tok):tU (.inl i) (.int i t)=true:=by simp[tU,Value.isInt]
theorem C1(x:Str)(t:Tok):tU (.inr x) (.str x t)=true:=by simp[tU,Value.isStrOf]
theorem O5(a b:Int):decide ((Sum.inl a:Key)=Sum.inl b)=(a==b):=by
 by_cases e:a=b;·subst e;simp
 ·have h:¬(Sum.inl a:Key)=Sum.inl b:=λq=>e (Sum.inl.inj q);rw[decide_eq_false h];exact(beq_eq_false_iff_ne.mpr e).symm
theorem OO(a b:Str):decide ((Sum.inr a:Key)=Sum.inr b)=decide (a=b):=by
 by_cases e:a=b;·subst e;simp
 ·have h:¬(Sum.inr a:Key)=Sum.inr b:=λq=>e (Sum.inr.inj q);rw[decide_eq_false h,decide_eq_false e]
theorem P9(a:Int)(b:Str):decide ((Sum.inl a:Key)=Sum.inr b)=false:=decide_eq_false (λq=>nomatch q)
theorem Qi(a:Str)(b:Int):decide ((Sum.inr a:Key)=Sum.inl b)=false:=decide_eq_false (λq=>nomatch q)
noncomputable def cM(prog:Program)(w:World):PySem.KeyKind prog w Key where
 is:=tU;hash:=Yu w;inj:=λv a b ha hb=>by
  rcases bY ha with⟨i,t,rfl,rfl⟩|⟨x,t,rfl,rfl⟩
  ·rcases bY hb with⟨j,u,rfl,e⟩|⟨y,u,rfl,e⟩;·injection e with c _;rw[c]
   ·exact nomatch e
  ·rcases bY hb with⟨j,u,rfl,e⟩|⟨y,u,rfl,e⟩;·exact nomatch e
   ·injection e with c _;rw[c]
 byValue:=λk v h=>by rcases bY h with⟨i,t,rfl,rfl⟩|⟨x,t,rfl,rfl⟩<;>rfl
 pyHash:=λhv h=>by
  rcases bY hv with⟨i,t,rfl,rfl⟩|⟨x,t,rfl,rfl⟩;·exact wpAny_pyHash_int h
  ·exact wpAny_pyHash_str h
 eqBool:=λd hv h=>by
  rcases bY d with⟨i,t,rfl,rfl⟩|⟨x,t,rfl,rfl⟩
  ·rcases bY hv with⟨j,u,rfl,rfl⟩|⟨y,u,rfl,rfl⟩;·rw[O5]at h;exact wpAny_eqBool_int h
   ·rw[P9]at h;exact SeqAt.EqAt.int_str i t y u _ _ _ _ h
  ·rcases bY hv with⟨j,u,rfl,rfl⟩|⟨y,u,rfl,rfl⟩;·rw[Qi]at h;exact SeqAt.EqAt.str_int x t j u _ _ _ _ h
   ·rw[OO]at h;exact wpAny_eqBool_str h
 «strs»:=λk x t v h=>by
  rcases bY h with⟨i,u,rfl,e⟩|⟨y,u,rfl,e⟩;·exact nomatch e
  ·injection e with c _;subst c;cases v<;>rfl
theorem wK(prog:Program)(w:World)(i:Int)(t:Tok):(cM prog w).is (.inl i) (.int i t)=true:=CI i t
theorem wL(prog:Program)(w:World)(x:Str)(t:Tok):(cM prog w).is (.inr x) (.str x t)=true:=C1 x t
inductive V where|bz|bl(b:Bool)|int(i:Int)|str(x:Str)|DZ(b:Array UInt8)|PD(b:UInt64)|ref(a:Addr)|ty(n:String)deriving DecidableEq
noncomputable def RelV:V->Value->Prop| .bz,u=>u=Value.none| .bl b,u=>u=Value.bool b| .int i,u=>∃t,u=Value.int i t| .str x,u=>∃t,u=Value.str x t| .DZ b,u=>∃t,u=Value.bytes b t| .PD b,u=>∃t,u=Value.float b t| .ref a,u=>u=Value.ref a| .ty n,u=>u=Value.type n
noncomputable abbrev Vals:List V->List Value->Prop:=Paired RelV
theorem Vals.length{xs:List V}{us:List Value}(r:Vals xs us):xs.length=us.length:=Paired.length r
theorem Vals.get:∀{xs:List V}{us:List Value}{i:Nat}{x:V},Vals xs us->xs[i]?=some x->∃u,us[i]?=some u/\RelV x u|_,_,_,_, .nil,e=>by simp at e|_,_,0,_, .cons r _,e=>by simp at e;subst e;exact⟨_,rfl,r⟩|_,_,i+1,x, .cons _ t,e=>by obtain⟨u,h1,h2⟩:=Vals.get (i:=i) (x:=x) t (by simpa using e);exact⟨u,by simpa using h1,h2⟩
theorem Vals.set{x:V}{u:Value}(r:RelV x u):∀{xs:List V}{us:List Value}(i:Nat),Vals xs us->Vals (xs.set i x) (us.set i u)|_,_,_, .nil=> .nil|_,_,0, .cons _ t=> .cons r t|_,_,i+1, .cons q t=> .cons q (Vals.set r i t)
theorem Vals.append:∀{xs a:List V}{us ws:List Value},Vals xs us->Vals a ws->Vals (xs++a) (us++ws)|_,_,_,_, .nil,s=>s|_,_,_,_, .cons r t,s=> .cons r (Vals.append t s)
theorem Vals.take:∀{xs:List V}{us:List Value}(n:Nat),Vals xs us->Vals (xs.take n) (us.take n)|_,_,0,_=> .nil|_,_,_+1, .nil=> .nil|_,_,n+1, .cons r t=> .cons r (Vals.take n t)
theorem Vals.drop:∀{xs:List V}{us:List Value}(n:Nat),Vals xs us->Vals (xs.drop n) (us.drop n)|_,_,0,r=>r|_,_,_+1, .nil=> .nil|_,_,n+1, .cons _ t=>Vals.drop n t
noncomputable def zG:Option V->Option Value->Prop|some v,some u=>RelV v u|none,none=>True|_,_=>False
noncomputable def KV{a:Type}:List (a×V)->List (a×Value)->Prop:=Paired λ(p:a×V)(q:a×Value)=>p.1=q.1/\RelV p.2 q.2
noncomputable def kV:Key->V| .inl i=> .int i| .inr x=> .str x
inductive Xv where|tab(q:Str)(ln cl:Value)|code(q:Str)
inductive HO where/--a list -/|lst(xs:List V)/--a tuple (never changes) -/|tup(xs:List V)/--a dict whose keys are ints and texts; one whose keys are tuples of ints and texts (the empty one is both) -/|dK(kvs:List (Key×V))|dT(kvs:List (List Key×V))/--a set of ints: its members, its size -/|set(S:Int->Bool)(n:Nat)/--an instance of the class at C, its dict at dx, its attributes -/|ins(C dx:Addr)(fs:List (Str×V))/--the dict of the instance at x -/|own(x:Addr)/--the dict of an exception -/|xd(fs:List (Str×V))/--a bound method, f of x -/|met(f x:Addr)/--a range object lo, lo + 1, .. below hi -/|WC(lo hi:Int)/--a thing that is known to the object (the script; a dict while a loop walks it): read, never written while it is so -/|yU(o:Obj)(u:HO)/--a code object's table -/|DX(ps:Xv)/--any other thing, by what is true of its one object (a def of one's own: SetO a S n := HO.ext fun h => ..) -/|ext(φ:Heap->Prop)
noncomputable abbrev Hp:=Addr->Option HO
noncomputable def upd(H:Hp)(a:Addr)(o:HO):Hp:=λb=>if b=a then some o else H b
theorem aj{H:Hp}{a:Addr}{o:HO}:upd H a o a=some o:=by unfold upd;rw[if_pos rfl]
theorem bb{H:Hp}{a b:Addr}{o:HO}(h:b≠a):upd H a o b=H b:=by unfold upd;rw[if_neg h]
theorem Ud{H:Hp}{a b:Addr}{o u:HO}(h:H a=some o)(h':H b=some u)(d:o≠u):a≠b:=by intro e;subst e;rw[h]at h';exact d (Option.some.inj h')
theorem aC{H:Hp}{a b:Addr}{o:HO}(h:H a=some o)(h':H b=none):a≠b:=by intro e;subst e;rw[h]at h';cases h'
section
variable(P:Program)(w:World)
noncomputable def bP(H:Hp)(h:Heap)(a:Addr):HO->Prop| .lst xs=>xs.length<=sizeLine/\∃(b:List Value)(n:Nat),Vals xs b/\h.get? a=some {cls:= .type "list",data:= .seq b.toArray n}| .tup xs=>xs.length<=sizeLine/\∃b:List Value,Vals xs b/\IsTup h a b.toArray| .dK kvs=>kvs.length<=sizeLine/\(a==sysModules)=false/\∃vs,KV kvs vs/\h.DictOf (cM P w) a vs| .dT kvs=>kvs.length<=sizeLine/\(a==sysModules)=false/\∃xs:List (List Key×Addr×Value),Paired (λ(p:List Key×V)(q:List Key×Addr×Value)=>p.1=q.1/\H q.2.1=some (.tup (p.1.map kV))/\RelV p.2 q.2.2) kvs xs/\∃o es ep,h.get? a=some o/\o.ExactDict/\o.data= .dict es ep/\es.toList=xs.map (entryOfKey (tupleKind (cM P w)))/\(xs.map (·.1)).Nodup| .set S n=>h.SetOf (intKind P w) a S n| .ins C dx fs=>H dx=some (.own a)/\fs.length<=1000/\dx≠a/\h.get? a=some (PySem.W.instObj C dx)/\∃mA,h.Ns1 dx mA/\(∀f,zG (fs.lookup f) (mA f))/\PySem.Within mA (fs.map (·.1))| .own _=>∃o,h.get? a=some o| .xd fs=>∃mA,h.Ns1 a mA/\∀f,zG (fs.lookup f) (mA f)| .WC lo hi=>∃t u v,h.get? a=some {cls:= .type "range",data:= .fields #[.int lo t, .int hi u, .int 1 v]}| .yU o u=>h.get? a=some o/\bP H h a u| .DX (.tab q ln cl)=>h.get? a=some {cls:= .none,data:= .fields #[]}\/∃c,h.get? a=some {cls:= .none,data:= .fields #[ln,cl, .ref c]}/\H c=some (.DX (.code q))| .DX (.code q)=>h.CodeRec (.ref a) q| .met f x=>h.get? a=some (PySem.W.methodObj (.ref f) (.ref x))| .ext φ=>φ h/\(∃o,h.get? a=some o)/\∀h1 h2:Heap,φ h1->(∀o,h1.get? a=some o->h2.get? a=some o)->φ h2
def gJ(H:Hp)(h:Heap):Prop:=∀a o,H a=some o->bP P w H h a o
end
section
variable{P:Program}{w:World}{H H':Hp}{h h':Heap}{a:Addr}{o:HO}
theorem bP.lt(x:bP P w H h a o):a<h.objs.size:=by
 cases o with
  |lst xs=>obtain⟨_,_,_,_,e⟩:=x;exact zQ07 e
  |tup xs=>obtain⟨_,_,_,p⟩:=x;exact p.lt
  |dK kvs=>obtain⟨_,_,_,_,o,_,_,e,_⟩:=x;exact zQ07 e
  |dT kvs=>obtain⟨_,_,_,_,o,_,_,e,_⟩:=x;exact zQ07 e
  |set S n=>obtain⟨o,_,_,_,e,_⟩:=x;exact zQ07 e
  |ins C dx fs=>obtain⟨_,_,_,e,_⟩:=x;exact zQ07 e
  |own y=>obtain⟨_,e⟩:=x;exact zQ07 e
  |xd fs=>obtain⟨_,⟨_,_,_,e,_⟩,_⟩:=x;exact zQ07 e
  |WC lo hi=>obtain⟨_,_,_,e⟩:=x;exact zQ07 e
  |yU ob u=>obtain⟨e,_⟩:=x;exact zQ07 e
  |DX ps=>cases ps with|tab q ln cl=>rcases x with e|⟨c,e,_⟩<;>exact zQ07 e|code q=>obtain⟨c,o,vs,t,b,d,_⟩:=x;cases b;exact zQ07 d
  |met f y=>exact zQ07 (show h.get? a=some _ from x)
  |ext φ=>obtain⟨_,⟨_,e⟩,_⟩:=x;exact zQ07 e
theorem Paired.Pt{e g:Type}{F G:e->g->Prop}:∀{c:List e}{d:List g},Paired F c d->(∀a b,F a b->G a b)->Paired G c d|_,_, .nil,_=> .nil|_,_, .cons r t,f=> .cons (f _ _ r) (Paired.Pt t f)
noncomputable def Fix:HO->Prop| .tup _=>True| .DX _=>True|_=>False
noncomputable abbrev Vc:={u:HO//Fix u}
theorem bP.sL(x:bP P w H h a o)(k:∀b u,(b=a\/H b=some (.own a))->h.get? b=some u->h'.get? b=some u)(ho:∀b,H b=some (.own a)->H' b=some (.own a))(ht:∀(b:Addr)(u:Vc),H b=some u.1->H' b=some u.1):bP P w H' h' a o:=by
 induction o with
  |lst xs=>obtain⟨z,i,n,r,e⟩:=x;exact⟨z,i,n,r,k _ _ (.inl rfl) e⟩
  |tup xs=>obtain⟨z,i,r,ob,e,c⟩:=x;exact⟨z,i,r,ob,k _ _ (.inl rfl) e,c⟩
  |dK kvs=>obtain⟨z,y,vs,r,ob,es,ep,e,c⟩:=x;exact⟨z,y,vs,r,ob,es,ep,k _ _ (.inl rfl) e,c⟩
  |dT kvs=>obtain⟨z,y,xs,r,ob,es,ep,e,c⟩:=x;exact⟨z,y,xs,Paired.Pt r λp q z=>⟨z.1,ht _ ⟨.tup _,trivial⟩ z.2.1,z.2.2⟩,ob,es,ep,k _ _ (.inl rfl) e,c⟩
  |set S n=>obtain⟨ob,es,ep,t,e,c⟩:=x;exact⟨ob,es,ep,t,k _ _ (.inl rfl) e,c⟩
  |ins C dx fs=>obtain⟨d,z,ne,e,mA,⟨od,es,ep,g,c⟩,r⟩:=x;exact⟨ho _ d,z,ne,k _ _ (.inl rfl) e,mA,⟨od,es,ep,k _ _ (.inr d) g,c⟩,r⟩
  |own y=>obtain⟨ob,e⟩:=x;exact⟨ob,k _ _ (.inl rfl) e⟩
  |xd fs=>obtain⟨mA,⟨od,es,ep,e,c⟩,r⟩:=x;exact⟨mA,⟨od,es,ep,k _ _ (.inl rfl) e,c⟩,r⟩
  |WC lo hi=>obtain⟨t,u,v,e⟩:=x;exact⟨t,u,v,k _ _ (.inl rfl) e⟩
  |yU ob u m=>obtain⟨e,q⟩:=x;exact⟨k _ _ (.inl rfl) e,m q⟩
  |DX ps=>
   cases ps with
    |tab q ln cl=>
     rcases x with e|⟨c,e,r⟩;·exact .inl (k a _ (.inl rfl) e)
     ·exact .inr ⟨c,k a _ (.inl rfl) e,ht c ⟨.DX (.code q),trivial⟩ r⟩
    |code q=>obtain⟨c,o,vs,t,j,g,l⟩:=x;cases j;exact⟨_,o,vs,t,rfl,k a _ (.inl rfl) g,l⟩
  |met f y=>have e:h.get? a=some (PySem.W.methodObj (.ref f) (.ref y)):=x;show h'.get? a=some (PySem.W.methodObj (.ref f) (.ref y));exact k a _ (.inl rfl) e
  |ext φ=>obtain⟨p,⟨o,e⟩,st⟩:=x;exact⟨st _ _ p λo q=>k _ _ (.inl rfl) q,⟨o,k _ _ (.inl rfl) e⟩,st⟩
theorem gJ.lt(x:gJ P w H h)(e:H a=some o):a<h.objs.size:=(x a o e).lt
theorem gJ.fresh(x:gJ P w H h)(e:h.objs.size<=a):H a=none:=by cases q:H a with|none=>rfl|some u=>exact absurd (eB (x.lt q) e) (Nat.lt_irrefl _)
theorem gJ.kept(x:gJ P w H h)(k:∀b u,h.get? b=some u->h'.get? b=some u):gJ P w H h':=λa o e=>(x a o e).sL (λb u _ q=>k b u q) (λ_ q=>q) λ_ _ q=>q
theorem gJ.laid(x:gJ P w H h)(k:∀b u,h.get? b=some u->h'.get? b=some u)(d:h.objs.size<=a)(new:bP P w (upd H a o) h' a o):gJ P w (upd H a o) h':=λb u e=>by
 have hn:=x.fresh d;by_cases hb:b=a;·subst hb;rw[aj]at e;cases e;exact new
 ·rw[bb hb]at e;exact(x b u e).sL (λc v _ q=>k c v q) (λc q=>by rw[bb (aC q hn)];exact q) λc xs q=>by rw[bb (aC q hn)];exact q
end
def Rd(H:Hp)(a:Addr)(u:HO):Prop:=H a=some u\/∃o,H a=some (.yU o u)
theorem Rd.ok{P:Program}{w:World}{H:Hp}{h:Heap}{a:Addr}{u:HO}(r:Rd H a u)(x:gJ P w H h):bP P w H h a u:=by
 rcases r with r|⟨o,r⟩;·exact x a u r
 ·obtain⟨_,q⟩:=x a _ r;exact q
noncomputable def Sj:Option HO->Prop|some (.lst _)=>True|some (.dK _)=>True|some (.dT _)=>True|some (.set _ _)=>True|some (.ins _ _ _)=>True|some (.ext _)=>True|_=>False
section
variable{P:Program}{w:World}{H:Hp}{h h':Heap}{x e:Addr}{o':HO}
theorem gJ.write(ok:gJ P w H h)(d:Sj (H x))(he:e=x\/H e=some (.own x))(k:∀b u,b≠e->h.get? b=some u->h'.get? b=some u)(j:∃u,h'.get? e=some u)(new:bP P w (upd H x o') h' x o'):gJ P w (upd H x o') h':=λb u q=>by
 have g:∀c y,H c=some (.own y)->c≠x:=λc y r z=>by subst z;rw[r]at d;exact d
 have l:∀(c:Addr)(u:Vc),H c=some u.1->c≠x:=λc⟨u,f⟩r z=>by subst z;rw[show H c=some u from r]at d;cases u<;>first|exact d|exact f
 by_cases hb:b=x;·subst hb;rw[aj]at q;cases q;exact new
 ·rw[bb hb]at q;by_cases a:b=e
  ·have i:H b=some (.own x):=by
    rcases he with z|z;·exact absurd (a.trans z) hb
    ·rw[a];exact z
   rw[q]at i;cases i;obtain⟨v,hv⟩:=j;exact⟨v,by rw[a];exact hv⟩
  ·refine(ok b u q).sL (λc v hc r=>k c v ?_ r) (λc r=>by rw[bb (g c b r)];exact r) λc xs r=>by rw[bb (l c xs r)];exact r
   rcases hc with rfl|hc;·exact a
   ·rintro rfl;rcases he with z|z;·exact g c b hc z
    ·rw[hc]at z;cases z;exact hb rfl
end
structure Un(fs ex:List Addr)(H H':Hp)(h h':Heap):Prop where
 keep:∀b o,h.get? b=some o->H b=none->b∉fs->b∉ex->h'.get? b=some o
 slot:∀b o,h.get? b=some o->H b=none->b∈fs->b∉ex->∃sl,h'.get? b=some {o with slots:=sl}
 free:∀b o,h.get? b=some o->H b=none->b∉ex->H' b=none
 there:∀b o,h.get? b=some o->b∉ex->∃o',h'.get? b=some o'
 rd:∀b xs,H b=some (.tup xs)->H' b=some (.tup xs)
 ma:∀b o u,H b=some (.yU o u)->H' b=some (.yU o u)
 qB:∀b ps,H b=some (.DX ps)->H' b=some (.DX ps)
section
variable{fs fs' ex ex':List Addr}{H H1 H2:Hp}{h h1 h2 h':Heap}{a x e:Addr}{o:HO}
theorem Un.any(u:Un fs ex H H1 h h1){b:Addr}{ob:Obj}(q:h.get? b=some ob)(n:H b=none)(c:b∉ex):∃sl,h1.get? b=some {ob with slots:=sl}:=by
 by_cases hb:b∈fs;·exact u.slot b ob q n hb c
 ·exact⟨ob.slots,u.keep b ob q n hb c⟩
theorem Un.kept(k:∀b u,h.get? b=some u->h'.get? b=some u):Un fs ex H H h h':=⟨λb ob q _ _ _=>k b ob q,λb ob q _ _ _=>⟨ob.slots,k b ob q⟩,λ_ _ _ n _=>n,λb ob q _=>⟨ob,k b ob q⟩,λ_ _ q=>q,λ_ _ _ q=>q,λ_ ps q=>(by rw[q])⟩
theorem Un.refl:Un fs ex H H h h:=Un.kept λ_ _ q=>q
theorem Un.laid(k:∀b u,h.get? b=some u->h'.get? b=some u)(c:h.objs.size<=a)(hn:H a=none):Un fs ex H (upd H a o) h h' where
 keep:=λb u q _ _ _=>k b u q;slot:=λb u q _ _ _=>⟨u.slots,k b u q⟩;free:=λb u q n _=>by rw[bb (zQ23 (eB (zQ07 q) c))];exact n
 there:=λb u q _=>⟨u,k b u q⟩;rd:=λb xs q=>by rw[bb (aC q hn)];exact q
 ma:=λb u xs q=>by rw[bb (aC q hn)];exact q
 qB:=λb ps q=>(by rw[bb (aC q hn),q])
theorem Un.write(c:Sj (H x))(he:e=x\/H e=some (.own x))(k:∀b u,b≠e->h.get? b=some u->h'.get? b=some u)(g:∃u,h'.get? e=some u):Un fs ex H (upd H x o) h h':=by
 have f:∀b,H b=none->b≠x:=λb n z=>by subst z;rw[n]at c;exact c
 have hb:∀b,H b=none->b≠e:=λb n z=>by
  subst z;rcases he with r|r;·exact f b n r
  ·rw[n]at r;cases r
 have hm:∀b u,H b=some u->¬Sj (some u)->b≠x:=λb u q nm z=>by subst z;rw[q]at c;exact nm c
 refine⟨λb u q n _ _=>k b u (hb b n) q,λb u q n _ _=>⟨u.slots,k b u (hb b n) q⟩,λb u q n _=>by rw[bb (f b n)];exact n,λb u q _=>?_,λb xs q=>by rw[bb (hm b _ q λz=>z)];exact q,λb u xs q=>by rw[bb (hm b _ q λz=>z)];exact q,λb ps q=>(by rw[bb (hm b _ q λz=>z),q])⟩;by_cases d:b=e;·subst d;exact g
 ·exact⟨u,k b u d q⟩
end
noncomputable def WN(h:Heap)(H:Hp):List Addr:=(List.range h.objs.size).filter λa=>(H a).isSome
noncomputable def rl(h:Heap)(H:Hp):Heap:=PySem.W.hideAll h (WN h H)
theorem tI(h:Heap)(H:Hp):(rl h H).objs.size=h.objs.size:=PySem.W.hideAll_size _ _
theorem xa{h:Heap}{H:Hp}{b:Addr}{o:Obj}(e:h.get? b=some o)(n:H b=none):(rl h H).get? b=some o:=PySem.W.hideAll_get _ e λhm=>by have q:(H b).isSome=true:=(List.mem_filter.mp hm).2;rw[n]at q;simp at q
theorem CC{h:Heap}{H:Hp}{b:Addr}{o:Obj}(e:(rl h H).get? b=some o):h.get? b=some o/\H b=none:=by have a:h.get? b=some o:=PySem.W.of_hideAll (WN h H) e;refine⟨a,?_⟩;cases q:H b with|none=>rfl|some x=>have hm:b∈WN h H:=List.mem_filter.mpr ⟨List.mem_range.mpr (zQ07 a),by simp[q]⟩;have z:(rl h H).get? b=none:=PySem.W.hideAll_none (WN h H) hm;rw[z]at e;cases e
noncomputable def JC(g h:Heap)(L:Addr):List (Addr×Obj):=(List.range h.objs.size).filterMap λa=>if a=L\/(g.get? a).isSome=true then none else(h.get? a).map λo=>(a,o)
noncomputable def rest(g h:Heap)(L d:Addr):List (Addr×Obj):=(JC g h L).filter λp=>decide (p.1≠d)
def OP(mg:Str->Option Value)(h:Heap):Prop:=∃bm ob,mg "__builtins__"=some (.ref bm)/\bm≠builtinsNs/\h.get? bm=some ob/\ob.cls= .type "module"/\ob.dict=some builtinsNs/\ob.data= .plain
theorem OP.keeps{mg:Str->Option Value}{h h':Heap}(x:OP mg h)(k:∀b o,h.get? b=some o->h'.get? b=some o):OP mg h':=let⟨bm,ob,a,b,c,d⟩:=x;⟨bm,ob,a,b,k _ _ c,d⟩
structure Mod(K:PySem.W.Frag)(mg:Str->Option Value)(base:Heap):Prop where
 Ic:K.In base
 glob:base.Ns mainGlobals mg
 blt:∃mb,base.Ns builtinsNs mb/\∀x:Str,x≠"__name__"->mb x=bootBuiltins x
 nolimit:base.NoLimit
 bm:OP mg base
structure Cx where
 prog:Program
 w:World
 K:PySem.W.Frag
 mg:Str->Option Value
 base:Heap
 A:Around
 N:List Str
 bU:Shared
 H₀:Hp
 env:Env
 outer:List Env
 stack:List Env
 ex:List Addr
 fn:Str->Bool
 calm:Bool
 pn:List (Addr×Obj)
 xe:Value->Shared->Prop
noncomputable def iY(l:List Env):List Addr:=l.filterMap (·.frame)
noncomputable abbrev Cx.fs(X:Cx):List Addr:=iY X.outer
def SM(sc:Scope)(x:Str):Prop:=sc.names.lookup x=some .local\/sc.names.lookup x=some .cell\/sc.names.lookup x=some .free
def Loc(sc:Scope)(x:Str):Prop:=sc.names.lookup x=some .local\/sc.names.lookup x=some .cell
noncomputable def Sl(sc:Scope)(x:Str):Bool:=match sc.names.lookup x with|some .local=>true|some .cell=>true|_=>false
theorem cI{sc:Scope}{x:Str}(h:Sl sc x=true):Loc sc x:=by
 unfold Sl at h;split at h;·exact Or.inl (by assumption)
 ·exact Or.inr (by assumption)
 ·cases h
noncomputable def Look(env:Env)(h:Heap)(m:Str->Option Value)(x:Str)(u:Value):Prop:=(env.kindOf x=some .local/\m x=some u)\/((env.kindOf x=some .cell\/env.kindOf x=some .free)/\∃c,env.cells.lookup x=some c/\h.IsCell c (some u))
structure Cx.Ok(X:Cx):Prop where
 mod:Mod X.K X.mg X.base
 kind:X.env.scope.kind= .function
 glob:X.env.globals=mainGlobals
 blt:X.env.builtins=builtinsNs
 above:X.bU.heap.objs.size<=X.env.locals
 inj:∀x y c,X.env.cells.lookup x=some c->X.env.cells.lookup y=some c->x=y
 has:∀x,(X.env.kindOf x=some .cell\/X.env.kindOf x=some .free)->∃c,X.env.cells.lookup x=some c
 Q4:∀x c,X.fn x=true->X.env.cells.lookup x=some c->X.bU.heap.objs.size<=c
 hd:X.calm=true->ZY X.base X.pn X.A
 frames:X.A.frames=some X.stack
 Sg:X.stack=X.outer\/(X.stack=X.env::X.outer/\X.env.frame=some X.env.locals)
 Wk:∀b∈X.ex,b≠X.env.locals/\∀x c,X.env.cells.lookup x=some c->c≠b
 bs:∀b o,X.base.get? b=some o->X.bU.heap.get? b=some o/\X.H₀ b=none
 D3:X.base.objs.size<=X.bU.heap.objs.size
 xI:∀b o,X.base.get? b=some o->b∉X.ex
 Du:∀b∈X.ex,b∉X.fs
 jd:X.bU.heap.FunFrames X.base X.outer
 Ou:∀b∈X.fs,X.H₀ b=none
structure Inv(X:Cx)(pins:List (Addr×Obj))(σ:List (Option V))(H:Hp)(s:Shared):Prop where
 ok:X.Ok
 os:s.os=X.bU.os
 bare:AllBare s.gens
 base:Un X.fs X.ex X.H₀ H X.bU.heap s.heap
 loc:∃m,s.heap.Ns X.env.locals m/\∀(i:Nat)(x:Str)(v:V),X.N[i]?=some x->σ[i]?=some (some v)->SM X.env.scope x->∃u,RelV v u/\Look X.env s.heap m x u
 cell:∀x c,X.env.cells.lookup x=some c->∃v,s.heap.IsCell c v
 free:H X.env.locals=none
 d7:∀x c,X.env.cells.lookup x=some c->H c=none
 pin:∀p∈X.pn++pins,s.heap.get? p.1=some p.2/\H p.1=none/\p.1≠X.env.locals/\p.1∉X.fs/\∀v,p.2.data≠ .cell v
 bV:gJ X.prog X.w H s.heap
 len:σ.length=X.N.length
section
variable{X:Cx}{pins:List (Addr×Obj)}{σ:List (Option V)}{H H':Hp}{s:Shared}{h':Heap}
theorem Cx.Ok.RW(ok:X.Ok){b:Addr}{o:Obj}(e:X.base.get? b=some o):b∉X.fs:=λhb=>by have :=(ok.jd.mem hb).1;rw[e]at this;cases this
theorem Inv.bs(I:Inv X pins σ H s):∀b o,X.base.get? b=some o->s.heap.get? b=some o/\H b=none:=λb o e=>⟨I.base.keep b o (I.ok.bs b o e).1 (I.ok.bs b o e).2 (I.ok.RW e) (I.ok.xI b o e),I.base.free b o (I.ok.bs b o e).1 (I.ok.bs b o e).2 (I.ok.xI b o e)⟩
theorem Inv.bk(I:Inv X pins σ H s):∀b o,X.base.get? b=some o->s.heap.get? b=some o:=λb o e=>(I.bs b o e).1
theorem Inv.mod(I:Inv X pins σ H s):Mod X.K X.mg X.base:=I.ok.mod
theorem Inv.hb(I:Inv X pins σ H s)(hc:X.calm=true):HB s.heap X.A:=by
 rcases I.ok.hd hc with h|⟨a,oe,vs,b,c,d⟩;·exact .inl h
 ·exact .inr ⟨a,oe,vs,b,c.elim (I.bk a oe) λm=>(I.pin (a,oe) (sD _ m)).1,d⟩
theorem Inv.Qo(I:Inv X pins σ H s)(hc:X.calm=true){it:Addr}(f:it∈X.ex\/X.bU.heap.objs.size<=it)(g:∀p∈X.pn++pins,p.1≠it):∀a,X.A.handled=some (.ref a)->a≠it:=λa d z=>by
 subst z;rcases I.ok.hd hc with h|⟨b,oe,vs,e,c,i⟩;·rw[h]at d;cases d
 ·rw[e]at d;cases d;rcases c with c|c
  ·rcases f with z|z;·exact I.ok.xI _ _ c z
   ·exact absurd (eB (zQ07 c) I.ok.D3) (Nat.not_lt.mpr z)
  ·exact g _ (sD _ c) rfl
theorem Inv.lD(I:Inv X pins σ H s):X.K.In s.heap:=I.ok.mod.Ic.keeps I.bk
theorem Inv.fr(I:Inv X pins σ H s):∃m,Fr X.base X.env.locals s.heap m:=let⟨m,hn,_⟩:=I.loc;⟨m,hn,I.bk,cB I.ok.D3 I.ok.above⟩
theorem Inv.lt(I:Inv X pins σ H s):X.env.locals<s.heap.objs.size:=let⟨_,hn,_⟩:=I.loc;hn.lt
theorem Inv.sz(I:Inv X pins σ H s):X.bU.heap.objs.size<=s.heap.objs.size:=cB I.ok.above (Nat.le_of_lt I.lt)
theorem Inv.YY(I:Inv X pins σ H s){a:Addr}(h:s.heap.objs.size<=a):a∉X.fs:=λhb=>by obtain⟨_,o,ho,_⟩:=I.ok.jd.mem hb;exact absurd (eB (zQ07 ho) (cB I.sz h)) (Nat.lt_irrefl _)
theorem Inv.MN(I:Inv X pins σ H s):∀x c,X.env.cells.lookup x=some c->c≠X.env.locals:=λx c e z=>by obtain⟨v,o,ho,hd⟩:=I.cell x c e;obtain⟨m,⟨o',es,ep,b,a,_⟩,_⟩:=I.loc;rw[z,b]at ho;cases ho;rw[a]at hd;cases hd
theorem Inv.jd(I:Inv X pins σ H s):s.heap.FunFrames X.base X.outer:=by
 have all:∀(l:List Env),(∀b∈iY l,b∈X.fs)->X.bU.heap.FunFrames X.base l->s.heap.FunFrames X.base l:=by intro l;induction l with|nil=>intro _ _;trivial|cons env r g=>intro d hl;obtain⟨f,⟨L,o,c,hn,ho,hd⟩,hr⟩:=hl;have a:L∈X.fs:=d L (by unfold iY;rw[List.filterMap_cons,c];exact cT);obtain⟨sl,e⟩:=I.base.slot L o ho (I.ok.Ou L a) a λz=>I.ok.Du L z a;exact⟨f,⟨L,_,c,hn,e,hd⟩,g (λb hb=>d b (by unfold iY;rw[List.filterMap_cons,c];exact dB _ hb)) hr⟩
 exact all X.outer (λ_ hb=>hb) I.ok.jd
theorem Inv.stack(I:Inv X pins σ H s):s.heap.FunFrames X.base X.stack:=by
 rcases I.ok.Sg with e|⟨e,a⟩;·rw[e];exact I.jd
 ·rw[e];obtain⟨m,hn,_⟩:=I.loc;refine .cons (by rw[I.ok.kind];decide) a hn ?_ I.jd;exact Heap.get?_none_of_le (cB I.ok.D3 I.ok.above)
theorem Inv.gY(I:Inv X pins σ H s):∀b∈iY X.stack,b∈X.env.locals::X.fs:=λb hb=>by
 rcases I.ok.Sg with e|⟨e,a⟩;·rw[e]at hb;exact dB _ hb
 ·rw[e]at hb;unfold iY at hb;rw[List.filterMap_cons,a]at hb;exact hb
theorem Inv.uI(I:Inv X pins σ H s):∀b∈iY X.stack,H b=none:=λb hb=>by
 rcases List.mem_cons.mp (I.gY b hb)with e|hb;·rw[e];exact I.free
 ·obtain⟨_,o,ho,_⟩:=I.ok.jd.mem hb;exact I.base.free b o ho (I.ok.Ou b hb) λz=>I.ok.Du b z hb
theorem Inv.step{g':Array GenState}{t':Nat}{d':Drawn}{ch:List Addr}(I:Inv X pins σ H s)(g:∀b∈ch,(b∈X.ex\/X.bU.heap.objs.size<=b)/\b≠X.env.locals/\(∀x c,X.env.cells.lookup x=some c->c≠b)/\∀p∈X.pn++pins,p.1≠b)(keep:∀b o,b≠X.env.locals->b∉X.fs->b∉ch->s.heap.get? b=some o->H b=none->h'.get? b=some o)(slot:∀b o,b≠X.env.locals->b∈X.fs->b∉ch->s.heap.get? b=some o->H b=none->∃sl,h'.get? b=some {o with slots:=sl})(free:∀b o,b∉ch->s.heap.get? b=some o->H b=none->H' b=none)(there:∀b o,b∉ch->s.heap.get? b=some o->∃o',h'.get? b=some o')(rd:∀b xs,H b=some (.tup xs)->H' b=some (.tup xs))(ma:∀b o u,H b=some (.yU o u)->H' b=some (.yU o u))(qB:∀b ps,H b=some (.DX ps)->H' b=some (.DX ps))(ns:∀m,s.heap.Ns X.env.locals m->h'.Ns X.env.locals m)(bV:gJ X.prog X.w H' h')(C:AllBare g'):Inv X pins σ H' {s with heap:=h',gens:=g',drawn:=d',toks:=t'}:=by
 have y:∀b o,X.bU.heap.get? b=some o->b≠X.env.locals:=λb o e=>zQ23 (eB (zQ07 e) I.ok.above);have j:∀b o,X.bU.heap.get? b=some o->b∉X.ex->b∉ch:=λb o e a hb=>by
  rcases(g b hb).1 with z|z;·exact a z
  ·exact absurd (eB (zQ07 e) z) (Nat.lt_irrefl _)
 have cellK:∀x c,X.env.cells.lookup x=some c->∀v,s.heap.IsCell c v->h'.IsCell c v:=λx c e v⟨o,ho,hd⟩=>by
  have h:c∉ch:=λz=>(g c z).2.2.1 x c e rfl;by_cases hc:c∈X.fs;·obtain⟨sl,q⟩:=slot c o (I.MN x c e) hc h ho (I.d7 x c e);exact⟨_,q,hd⟩
  ·exact⟨o,keep c o (I.MN x c e) hc h ho (I.d7 x c e),hd⟩
 refine⟨I.ok,I.os,C,⟨λb o e n hb a=>?_,λb o e n hb a=>?_,λb o e n a=>?_,λb o e a=>?_,λb xs e=>rd b xs (I.base.rd b xs e),λb o xs e=>ma b o xs (I.base.ma b o xs e),λb ps e=>?_⟩,?_,λx c e=>?_,?_,λx c e=>?_,λp w=>?_,bV,I.len⟩;·exact keep b o (y b o e) hb (j b o e a) (I.base.keep b o e n hb a) (I.base.free b o e n a)
 ·obtain⟨sl,f⟩:=I.base.slot b o e n hb a;obtain⟨D,t⟩:=slot b _ (y b o e) hb (j b o e a) f (I.base.free b o e n a);exact⟨D,t⟩
 ·obtain⟨o',f⟩:=I.base.there b o e a;exact free b o' (j b o e a) f (I.base.free b o e n a)
 ·obtain⟨o',f⟩:=I.base.there b o e a;exact there b o' (j b o e a) f
 ·exact qB b ps (I.base.qB b ps e)
 ·obtain⟨m,hn,hl⟩:=I.loc;refine⟨m,ns m hn,λi x v f t B=>?_⟩;obtain⟨u,r,l⟩:=hl i x v f t B;refine⟨u,r,?_⟩;rcases l with l|⟨k,c,e,z⟩;·exact .inl l
  ·exact .inr ⟨k,c,e,cellK x c e _ z⟩
 ·obtain⟨v,z⟩:=I.cell x c e;exact⟨v,cellK x c e v z⟩
 ·obtain⟨m,⟨o,_,_,ho,_⟩,_⟩:=I.loc;exact free _ o (λz=>(g _ z).2.1 rfl) ho I.free
 ·obtain⟨v,o,ho,hd⟩:=I.cell x c e;exact free c o (λz=>(g c z).2.2.1 x c e rfl) ho (I.d7 x c e)
 ·obtain⟨e,n,ne,A,d⟩:=I.pin p w;have h:p.1∉ch:=λz=>(g p.1 z).2.2.2 p w rfl;exact⟨keep p.1 p.2 ne A h e n,free p.1 p.2 h e n,ne,A,d⟩
theorem Inv.un{t':Nat}(I:Inv X pins σ H s)(u:Un X.fs [] H H' s.heap h')(bV:gJ X.prog X.w H' h'):Inv X pins σ H' {s with heap:=h',toks:=t'}:=by obtain⟨m,⟨o,es,ep,ho,r⟩,_⟩:=id I.loc;obtain⟨sl,f⟩:=u.any ho I.free (by simp);exact I.step (g':=s.gens) (d':=s.drawn) (ch:=[]) (λ_ z=>nomatch z) (λb o _ hb _ e n=>u.keep b o e n hb (by simp)) (λb o _ hb _ e n=>u.slot b o e n hb (by simp)) (λb o _ e n=>u.free b o e n (by simp)) (λb o _ e=>u.there b o e (by simp)) u.rd u.ma u.qB (λh hm=>by obtain⟨o',d,c,a,g⟩:=hm;rw[ho]at a;cases a;exact⟨_,d,c,f,g⟩) bV I.bare
theorem Inv.call{g':Array GenState}{t':Nat}{d':Drawn}{ch:List Addr}(I:Inv X pins σ H s)(u:Un (iY X.stack) ch H H' s.heap h')(bV:gJ X.prog X.w H' h')(i:AllBare g')(d:∀b∈ch,(b∈X.ex\/X.bU.heap.objs.size<=b)/\b≠X.env.locals/\(∀x c,X.env.cells.lookup x=some c->c≠b)/\∀p∈X.pn++pins,p.1≠b):Inv X pins σ H' {s with heap:=h',gens:=g',drawn:=d',toks:=t'}:=by obtain⟨m,⟨o,es,ep,ho,r⟩,_⟩:=id I.loc;obtain⟨sl,a⟩:=u.any ho I.free λz=>(d _ z).2.1 rfl;exact I.step (ch:=ch) d (λb o a hb hc e n=>u.keep b o e n (λz=>(List.mem_cons.mp (I.gY b z)).elim a hb) hc) (λb o _ _ hc e n=>u.any e n hc) (λb o hc e n=>u.free b o e n hc) (λb o hc e=>u.there b o e hc) u.rd u.ma u.qB (λk hm=>by obtain⟨o',h,g,f,j⟩:=hm;rw[ho]at f;cases f;exact⟨_,h,g,a,j⟩) bV i
theorem Inv.turned{t':Nat}{it:Addr}(I:Inv X pins σ H s)(k:∀b o,b≠it->s.heap.get? b=some o->h'.get? b=some o)(hn:H it=none)(a:it≠X.env.locals)(h1:it∈X.ex\/X.bU.heap.objs.size<=it)(h2:∀x c,X.env.cells.lookup x=some c->c≠it)(h3:∀p∈X.pn++pins,p.1≠it):Inv X pins σ H {s with heap:=h',toks:=t'}:=by
 have d:∀b u,H b=some u->b≠it:=λb u e z=>by rw[z,hn]at e;cases e
 refine I.step (g':=s.gens) (d':=s.drawn) (ch:=[it]) (λb hb=>?_) (λb o _ _ hc e _=>k b o (λz=>hc (by simp[z])) e) (λb o _ _ hc e _=>⟨o.slots,k b o (λz=>hc (by simp[z])) e⟩) (λ_ _ _ _ n=>n) (λb o hc e=>⟨o,k b o (λz=>hc (by simp[z])) e⟩) (λ_ _ e=>e) (λ_ _ _ e=>e) (λb ps e=>(by rw[e])) (λm hm=>?_) (λb u e=>?_) I.bare
 ·have e:b=it:=by simpa using hb
  subst e;exact⟨h1,a,h2,h3⟩
 ·obtain⟨o,es,ep,ho,r⟩:=hm;exact⟨o,es,ep,k _ o (Ne.symm a) ho,r⟩
 ·refine(I.bV b u e).sL (λc v hc q=>k c v ?_ q) (λ_ q=>q) λ_ _ q=>q;rcases hc with z|z;·rw[z];exact d b u e
  ·exact d c _ z
theorem Inv.tok(I:Inv X pins σ H s)(t:Nat):Inv X pins σ H {s with toks:=t}:=I.un (h':=s.heap) (t':=t) Un.refl I.bV
theorem Inv.kept{t':Nat}(I:Inv X pins σ H s)(k:∀b u,s.heap.get? b=some u->h'.get? b=some u):Inv X pins σ H {s with heap:=h',toks:=t'}:=I.un (Un.kept k) (I.bV.kept k)
theorem Inv.laid{a:Addr}{o:HO}{t':Nat}(I:Inv X pins σ H s)(k:∀b u,s.heap.get? b=some u->h'.get? b=some u)(c:s.heap.objs.size<=a)(new:bP X.prog X.w (upd H a o) h' a o):Inv X pins σ (upd H a o) {s with heap:=h',toks:=t'}:=I.un (Un.laid k c (I.bV.fresh c)) (I.bV.laid k c new)
theorem Inv.write{x e:Addr}{o:HO}{t':Nat}(I:Inv X pins σ H s)(c:Sj (H x))(he:e=x\/H e=some (.own x))(k:∀b u,b≠e->s.heap.get? b=some u->h'.get? b=some u)(a:∃u,h'.get? e=some u)(new:bP X.prog X.w (upd H x o) h' x o):Inv X pins σ (upd H x o) {s with heap:=h',toks:=t'}:=I.un (Un.write c he k a) (I.bV.write c he k a new)
theorem Inv.weak{a:List (Option V)}(I:Inv X pins σ H s)(hl:a.length=σ.length)(w:∀(i:Nat)v,a[i]?=some (some v)->σ[i]?=some (some v)):Inv X pins a H s:=⟨I.ok,I.os,I.bare,I.base,let⟨m,hn,e⟩:=I.loc;⟨m,hn,λi x v b c d=>e i x v b (w i v c) d⟩,I.cell,I.free,I.d7,I.pin,I.bV,hl.trans I.len⟩
theorem Inv.m7{a:List (Addr×Obj)}(I:Inv X pins σ H s)(h:∀p∈a,s.heap.get? p.1=some p.2/\H p.1=none/\p.1≠X.env.locals/\p.1∉X.fs/\∀v,p.2.data≠ .cell v):Inv X a σ H s:=⟨I.ok,I.os,I.bare,I.base,I.loc,I.cell,I.free,I.d7,λp b=>(List.mem_append.mp b).elim (λz=>I.pin p (sD _ z)) (h p),I.bV,I.len⟩
theorem qX{N:List Str}(e:N.Nodup){i j:Nat}{x:Str}(a:N[i]?=some x)(b:N[j]?=some x):i=j:=by obtain⟨h1,c⟩:=List.getElem?_eq_some_iff.mp a;obtain⟨h2,d⟩:=List.getElem?_eq_some_iff.mp b;exact(List.getElem_inj e).mp (c.trans d.symm)
theorem DP{M:Model}{A:Around}{E:Value->Shared->Prop}{i:Nat}{x:Str}{v:V}{u:Value}{Q:Unit->Shared->Prop}(I:Inv X pins σ H s)(O:X.N.Nodup)(hi:X.N[i]?=some x)(l:Loc X.env.scope x)(r:RelV v u)(h:∀s',Inv X pins (σ.set i (some v)) H s'->(∃a,Heap.SameBut a s.heap s'.heap/\(a=X.env.locals\/X.env.cells.lookup x=some a))->Q () s')(Y:X.fn x=true\/X.env.scope.names.lookup x=some .local:=by first|exact .inl rfl|exact .inr rfl|assumption):wpAny M A (storeName X.env x u) Q E s:=by
 obtain⟨m,hn,hl⟩:=id I.loc;have W:(X.env.scope.kind== .class||(X.env.scope.kind== .module&&X.env.locals !=X.env.globals))=false:=by rw[I.ok.kind];rfl
 have T:i<σ.length:=by rw[I.len];exact(List.getElem?_eq_some_iff.mp hi).1
 have MN:=I.MN;have tracked:∀{a:Addr}{h':Heap},(∃o,s.heap.get? a=some o/\H a=none)->Heap.SameBut a s.heap h'->gJ X.prog X.w H h':=λ{a h'}ha f b ob e=>by
  obtain⟨_,_,S⟩:=ha;refine(I.bV b ob e).sL (λc C hc q=>(f.2 c ?_).trans q) (λ_ q=>q) λ_ _ q=>q;rintro rfl;rcases hc with rfl|hc;·rw[S]at e;cases e
  ·rw[S]at hc;cases hc
 rcases l with w|w
 ·refine wpAny_storeName_local w hn (λh' hn' f=>?_) W;obtain⟨oL,_,_,Z,_⟩:=id hn;refine h _ ⟨I.ok,I.os,I.bare,⟨λb o e n hb l=>?_,λb o e n hb l=>?_,I.base.free,λb o e l=>?_,I.base.rd,I.base.ma,I.base.qB⟩,⟨_,hn',λj y N g t D=>?_⟩,λy c e=>?_,I.free,I.d7,λp G=>?_,tracked ⟨oL,Z,I.free⟩ f,by simpa using I.len⟩ ⟨_,f, .inl rfl⟩;·exact(f.2 b (zQ23 (eB (zQ07 e) I.ok.above))).trans (I.base.keep b o e n hb l)
  ·obtain⟨sl,g⟩:=I.base.slot b o e n hb l;exact⟨sl,(f.2 b (zQ23 (eB (zQ07 e) I.ok.above))).trans g⟩
  ·obtain⟨o',g⟩:=I.base.there b o e l;exact⟨o',(f.2 b (zQ23 (eB (zQ07 e) I.ok.above))).trans g⟩
  ·by_cases hj:j=i;·subst hj;rw[hi]at g;cases g;rw[List.getElem?_set_self T]at t;cases t;exact⟨u,r, .inl ⟨w,by simp⟩⟩
   ·rw[List.getElem?_set_ne (Ne.symm hj)]at t;obtain⟨L,K,q⟩:=hl j y N g t D;refine⟨L,K,?_⟩;rcases q with⟨k,e⟩|⟨k,c,e,z⟩;·refine .inl ⟨k,?_⟩;have :y≠x:=λe=>hj (qX O g (e▸hi));simp[this,e]
    ·exact .inr ⟨k,c,e,z.sameBut f (MN y c e)⟩
  ·obtain⟨C,z⟩:=I.cell y c e;exact⟨C,z.sameBut f (MN y c e)⟩
  ·obtain⟨e,n,ne,J,d⟩:=I.pin p G;exact⟨(f.2 p.1 ne).trans e,n,ne,J,d⟩
 ·have F:X.fn x=true:=by
   rcases Y with z|z;·exact z
   ·rw[z]at w;cases w
  obtain⟨c,hc⟩:=I.ok.has x (.inl w);obtain⟨C,z⟩:=I.cell x c hc;refine wpAny_storeName_cell I.ok.kind w hc z (λh' P f=>?_);obtain⟨oc,U,ZE⟩:=id z;refine h {s with heap:=h'} ⟨I.ok,I.os,I.bare,⟨λb o e n hb l=>?_,λb o e n hb l=>?_,I.base.free,λb o e l=>?_,I.base.rd,I.base.ma,I.base.qB⟩,⟨m,hn.sameBut f (Ne.symm (MN x c hc)),λj y N g t D=>?_⟩,λy B e=>?_,I.free,I.d7,λp G=>?_,tracked ⟨oc,U,I.d7 x c hc⟩ f,by simpa using I.len⟩ ⟨c,f, .inr hc⟩;·exact(f.2 b (zQ23 (eB (zQ07 e) (I.ok.Q4 x c F hc)))).trans (I.base.keep b o e n hb l)
  ·obtain⟨sl,g⟩:=I.base.slot b o e n hb l;exact⟨sl,(f.2 b (zQ23 (eB (zQ07 e) (I.ok.Q4 x c F hc)))).trans g⟩
  ·obtain⟨o',g⟩:=I.base.there b o e l;exact⟨o',(f.2 b (zQ23 (eB (zQ07 e) (I.ok.Q4 x c F hc)))).trans g⟩
  ·by_cases hj:j=i;·subst hj;rw[hi]at g;cases g;rw[List.getElem?_set_self T]at t;cases t;exact⟨u,r, .inr ⟨.inl w,c,hc,P⟩⟩
   ·rw[List.getElem?_set_ne (Ne.symm hj)]at t;obtain⟨L,K,q⟩:=hl j y N g t D;refine⟨L,K,?_⟩;rcases q with q|⟨k,B,e,z'⟩;·exact .inl q
    ·refine .inr ⟨k,B,e,z'.sameBut f ?_⟩;rintro rfl;exact hj (qX O g (I.ok.inj _ _ _ e hc▸hi))
  ·by_cases R:B=c;·subst R;exact⟨_,P⟩
   ·obtain⟨w2,z2⟩:=I.cell y B e;exact⟨w2,z2.sameBut f R⟩
  ·obtain⟨e,n,ne,J,d⟩:=I.pin p G;refine⟨(f.2 p.1 ?_).trans e,n,ne,J,d⟩;intro q;rw[q,U]at e;have q':oc=p.2:=Option.some.inj e;exact d C (by rw[<-q'];exact ZE)
theorem jt{M:Model}{A:Around}{E:Value->Shared->Prop}{i:Nat}{x:Str}{v:V}{u:Value}{Q:Unit->Shared->Prop}(I:Inv X pins σ H s)(b:X.N.Nodup)(hi:X.N[i]?=some x)(d:Loc X.env.scope x)(r:RelV v u)(h:∀s',Inv X pins (σ.set i (some v)) H s'->Q () s')(c:X.fn x=true\/X.env.scope.names.lookup x=some .local:=by first|exact .inl rfl|exact .inr rfl|assumption):wpAny M A (storeName X.env x u) Q E s:=DP I b hi d r (λs' a _=>h s' a) c
theorem Inv.Lw{s':Shared}{ch:List Addr}(I:Inv X pins σ H s)(ho:s'.os=s.os)(u:Un (iY X.stack) ch H H' s.heap s'.heap)(bV:gJ X.prog X.w H' s'.heap)(d:AllBare s'.gens)(a:∀b∈ch,(b∈X.ex\/X.bU.heap.objs.size<=b)/\b≠X.env.locals/\(∀x c,X.env.cells.lookup x=some c->c≠b)/\∀p∈X.pn++pins,p.1≠b):Inv X pins σ H' s':=by obtain⟨h',g',d',t',o'⟩:=s';have e:o'=s.os:=ho;subst e;exact I.call (g':=g') (t':=t') (d':=d') u bV d a
end
noncomputable abbrev XK:=Value->Option Addr->Hp->Prop
noncomputable abbrev St:=List (Option V)
noncomputable abbrev VK:=V->Hp->Prop
noncomputable abbrev TE:=St->Hp->VK->Prop
noncomputable abbrev TT:=St->Hp->(Bool->Hp->Prop)->Prop
noncomputable abbrev TA:=St->Hp->(List V->Hp->Prop)->Prop
structure Ends where
 nx:St->Hp->Prop
 rt:VK
 bk:St->Hp->Prop:=λ_ _=>False
 ct:St->Hp->Prop:=λ_ _=>False
noncomputable abbrev TS:=Ends->St->Hp->Prop
def EP(X:Cx)(pins:List (Addr×Obj))(σ:St)(Q:VK)(u:Value)(s':Shared):Prop:=∃v H',Inv X pins σ H' s'/\RelV v u/\Q v H'
def TP(X:Cx)(pins:List (Addr×Obj))(σ:St)(Q:Bool->Hp->Prop)(b:Bool)(s':Shared):Prop:=∃H',Inv X pins σ H' s'/\Q b H'
def AP(X:Cx)(pins:List (Addr×Obj))(σ:St)(Q:List V->Hp->Prop)(us:List Value)(s':Shared):Prop:=∃vs H',Inv X pins σ H' s'/\Vals vs us/\Q vs H'
noncomputable def SP(X:Cx)(pins:List (Addr×Obj))(D:Ends)(f:Flow)(s':Shared):Prop:=match f with| .next=>∃a H',Inv X pins a H' s'/\D.nx a H'| .brk=>∃a H',Inv X pins a H' s'/\D.bk a H'| .cont=>∃a H',Inv X pins a H' s'/\D.ct a H'| .ret u=>∃v a H',Inv X pins a H' s'/\RelV v u/\D.rt v H'
noncomputable def PE(X:Cx)(e:Expr)(t:TE):Prop:=∀(pins:List (Addr×Obj))(s:Shared)(σ:St)(H:Hp)(Q:VK),Inv X pins σ H s->t σ H Q->wpAny (model X.prog X.w) X.A (eval e X.env) (EP X pins σ Q) X.xe s
noncomputable def PT(X:Cx)(e:Expr)(t:TT):Prop:=∀(pins:List (Addr×Obj))(s:Shared)(σ:St)(H:Hp)(Q:Bool->Hp->Prop),Inv X pins σ H s->t σ H Q->wpAny (model X.prog X.w) X.A (isTrue e X.env (eval e X.env)) (TP X pins σ Q) X.xe s
noncomputable def PW(X:Cx)(e:Expr)(t:TT):Prop:=∀(whole:Sem Value)(pins:List (Addr×Obj))(s:Shared)(σ:St)(H:Hp)(Q:Bool->Hp->Prop),Inv X pins σ H s->t σ H Q->wpAny (model X.prog X.w) X.A (isTrue e X.env whole) (TP X pins σ Q) X.xe s
theorem PW.pt{X:Cx}{e:Expr}{t:TT}(h:PW X e t):PT X e t:=h _
noncomputable def PA(X:Cx)(es:List Expr)(t:TA):Prop:=∀(a:Pos)(pins:List (Addr×Obj))(s:Shared)(σ:St)(H:Hp)(Q:List V->Hp->Prop),Inv X pins σ H s->t σ H Q->wpAny (model X.prog X.w) X.A (spliced (backTo a (starEach es X.env))) (AP X pins σ Q) X.xe s
noncomputable def PS(X:Cx)(st:Stmt)(t:TS):Prop:=∀(pins:List (Addr×Obj))(s:Shared)(σ:St)(H:Hp)(D:Ends),Inv X pins σ H s->t D σ H->wpAny (model X.prog X.w) X.A (exec st X.env) (SP X pins D) X.xe s
noncomputable def kq(X:Cx)(st:List Stmt)(t:TS):Prop:=∀(pins:List (Addr×Obj))(s:Shared)(σ:St)(H:Hp)(D:Ends),Inv X pins σ H s->t D σ H->wpAny (model X.prog X.w) X.A (execs st X.env) (SP X pins D) X.xe s
theorem bL{c:Type}{t:Sem c}{Q b:c->Shared->Prop}{M:Model}{A:Around}{E:Value->Shared->Prop}{s:Shared}(h:wpAny M A t Q E s)(d:∀a s,Q a s->b a s):wpAny M A t b E s:=wpAny_mono h d λ_ _ x=>x
section
variable{X:Cx}
noncomputable def mq(i:Nat):TE:=λσ H Q=>∃v,σ[i]?=some (some v)/\Q v H
noncomputable def tC(v:V):TE:=λ_ H Q=>Q v H
theorem Oh{i:Nat}{x:Str}{g:Pos}(d:X.N[i]?=some x)(hv:SM X.env.scope x)(hd:(x==("__debug__":Str))=false:=by decide)(f:(x==("__classdict__":Str))=false:=by decide):PE X (.Name x g) (mq i):=by
 intro pins s σ H Q I h;obtain⟨v,e,h⟩:=h;obtain⟨m,hn,hl⟩:=I.loc;obtain⟨u,r,l⟩:=hl i x v d e hv;have fin:EP X pins σ Q u s:=⟨v,H,I,r,h⟩;rcases l with⟨a,hm⟩|⟨a,c,hc,b⟩;·exact wpAny_Name (wpAny_loadName_local I.ok.kind a hn hm fin) hd
 ·rcases a with a|a;·exact wpAny_Name (wpAny_loadName_cell I.ok.kind a hc b fin) hd
  ·exact wpAny_Name (wpAny_loadName_free I.ok.kind a hc b fin f) hd
theorem ah{i j a}:PE X (.Constant (.int i) j a) (tC (.int i)):=λ_ _ _ H _ I h=>wpAny_Constant_int ⟨.int i,H,I.tok _,⟨_,rfl⟩,h⟩
theorem jN{b j a}:PE X (.Constant (.bool b) j a) (tC (.bl b)):=λ_ _ _ H _ I h=>Constant_bool ⟨.bl b,H,I,rfl,h⟩
theorem Hl{j a}:PE X (.Constant .none j a) (tC .bz):=λ_ _ _ H _ I h=>Constant_none ⟨.bz,H,I,rfl,h⟩
theorem ak{x j a}:PE X (.Constant (.str x) j a) (tC (.str x)):=λ_ _ _ H _ I h=>Calls.Constant_str ⟨.str x,H,I.tok _,⟨_,rfl⟩,h⟩
def Gl(X:Cx)(x:Str):Prop:=X.env.kindOf x=some .globalImplicit
theorem mR{E:Value->Shared->Prop}{pins:List (Addr×Obj)}{s:Shared}{σ:St}{H:Hp}{x:Str}{u:Value}{b:Pos}{Q:Value->Shared->Prop}(I:Inv X pins σ H s)(a:Gl X x)(hm:X.mg x=some u)(h:Q u s)(hd:(x==("__debug__":Str))=false:=by decide):wpAny (model X.prog X.w) X.A (eval (.Name x b) X.env) Q E s:=Calls.Name_function_global I.ok.kind a (Calls.loadGlobal_global (by rw[I.ok.glob];exact I.mod.glob.keeps I.bk) hm h) hd
theorem gr{E:Value->Shared->Prop}{pins:List (Addr×Obj)}{s:Shared}{σ:St}{H:Hp}{x:Str}{u:Value}{b:Pos}{Q:Value->Shared->Prop}(I:Inv X pins σ H s)(a:Gl X x)(hm:X.mg x=none)(hv:bootBuiltins x=some u)(h:Q u s)(hn:x≠"__name__":=by decide)(hd:(x==("__debug__":Str))=false:=by decide):wpAny (model X.prog X.w) X.A (eval (.Name x b) X.env) Q E s:=by obtain⟨mb,h1,h2⟩:=I.mod.blt;exact Calls.Name_function_global I.ok.kind a (Calls.loadGlobal_builtin (by rw[I.ok.glob];exact I.mod.glob.keeps I.bk) hm (by rw[I.ok.blt];exact h1.keeps I.bk) ((h2 x hn).trans hv) h) hd
theorem vE{x:Str}{v:V}{u:Value}{b:Pos}(a:Gl X x)(hm:X.mg x=some u)(r:RelV v u)(hd:(x==("__debug__":Str))=false:=by decide):PE X (.Name x b) (tC v):=λ_ _ _ H _ I h=>mR I a hm ⟨v,H,I,r,h⟩ hd
theorem JV{x:Str}{v:V}{u:Value}{b:Pos}(a:Gl X x)(hm:X.mg x=none)(hv:bootBuiltins x=some u)(r:RelV v u)(hn:x≠"__name__":=by decide)(hd:(x==("__debug__":Str))=false:=by decide):PE X (.Name x b) (tC v):=λ_ _ _ H _ I h=>gr I a hm hv ⟨v,H,I,r,h⟩ hn hd
variable{a b:Expr}{ta tb:TE}{pos:Pos}
noncomputable def PC(X:Cx)(op:CmpOp)(a b:Expr)(t:TE):Prop:=∀(pins:List (Addr×Obj))(s:Shared)(σ:St)(H:Hp)(Q:VK),Inv X pins σ H s->t σ H Q->wpAny (model X.prog X.w) X.A (eval a X.env) (λv s₁=>wpAny (model X.prog X.w) X.A (eval b X.env) (λu s₂=>wpAny (model X.prog X.w) X.A (compareOp op v u) (EP X pins σ Q) X.xe s₂) X.xe s₁) X.xe s
noncomputable def tB(t:TE):TT:=λσ H Q=>t σ H λx d=>∃c,x= .bl c/\Q c d
theorem Pc{op:CmpOp}{t:TE}(h:PC X op a b t)(h1:behindInMarks op b=false:=by first|exact j _ (by decide) (by decide)|rfl):PT X (.Compare a [op] [b] pos) (tB t):=by intro pins s σ H Q I hw;refine wpAny_isTrue_Compare1 (bL (h pins s σ H _ I hw) λv s1 h1=>bL h1 λu s2 h2=>bL h2 λc k i=>?_) h1;obtain⟨x,e,f,g,q1⟩:=i;obtain⟨d,rfl,q⟩:=q1;cases g;exact wpAny_truthy_bool ⟨e,f,q⟩
theorem iK{e:Expr}{t:TE}(h:PE X e t)(he:∀whole,isTrue e X.env whole=(do let v<-whole;standAt e.pos;holding [v] (truthy v)):=by intro _;rfl):PT X e (tB t):=by intro pins s σ H Q I hw;refine isTrue_plain (bL (h pins s σ H _ I hw) λv s1 i=>?_) (he _);obtain⟨x,c,f,g,q1⟩:=i;obtain⟨d,rfl,q⟩:=q1;cases g;exact wpAny_truthy_bool ⟨c,f,q⟩
variable{tA V1:TT}{rest:List Expr}
noncomputable def YI(t u:TT):TT:=λσ H Q=>t σ H λc d=>if c=true then u σ d Q else Q false d
noncomputable def tOr(t u:TT):TT:=λσ H Q=>t σ H λc d=>if c=true then Q true d else u σ d Q
noncomputable def Zx(t:TT):TT:=λσ H Q=>t σ H λc d=>Q (!c) d
theorem ju(ha:PT X a tA):PW X (.BoolOp .And [a] pos) tA:=by intro d pins s σ H Q I h;refine isTrue_and (bL (ha pins s σ H Q I h) λc s1 e=>?_);cases c with|true=>exact isTrue_and_nil e|false=>exact e
theorem eY(ha:PT X a tA):PW X (.BoolOp .Or [a] pos) tA:=by intro d pins s σ H Q I h;refine isTrue_or (bL (ha pins s σ H Q I h) λc s1 e=>?_);cases c with|false=>exact isTrue_or_nil e|true=>exact e
theorem qU(ha:PT X a tA)(hb:PW X (.BoolOp .And (b::rest) pos) V1):PW X (.BoolOp .And (a::b::rest) pos) (YI tA V1):=by intro f pins s σ H Q I h;refine isTrue_and (bL (ha pins s σ H _ I h) λc s1 g=>?_);obtain⟨d,e,q1⟩:=g;cases c with|true=>exact hb f pins s1 σ d Q e q1|false=>exact⟨d,e,q1⟩
theorem e_(ha:PT X a tA)(hb:PW X (.BoolOp .Or (b::rest) pos) V1):PW X (.BoolOp .Or (a::b::rest) pos) (tOr tA V1):=by intro f pins s σ H Q I h;refine isTrue_or (bL (ha pins s σ H _ I h) λc s1 g=>?_);obtain⟨d,e,q1⟩:=g;cases c with|true=>exact⟨d,e,q1⟩|false=>exact hb f pins s1 σ d Q e q1
theorem yS(ha:PT X a tA):PT X (.UnaryOp .Not a pos) (Zx tA):=by intro pins s σ H Q I h;exact isTrue_not (ha pins s σ H (λc d=>Q (!c) d) I h)
noncomputable def R8(ta tb:TE):TE:=λσ H Q=>ta σ H λx d=>∃c,x= .bl c/\if c=true then tb σ d Q else Q (.bl false) d
theorem yT{op}{t:TE}(h:PE X a t):PE X (.BoolOp op [a] pos) t:=λpins s σ H Q I hw=>BoolOp_one (h pins s σ H Q I hw)
theorem zz(ha:PE X a ta)(hb:PE X (.BoolOp .And (b::rest) pos) tb):PE X (.BoolOp .And (a::b::rest) pos) (R8 ta tb):=by intro pins s σ H Q I h;refine BoolOp_and (bL (ha pins s σ H _ I h) λv s1 g=>?_);obtain⟨x,d,e,f,q1⟩:=g;obtain⟨c,rfl,q1⟩:=q1;cases f;refine wpAny_truthy_bool ?_;cases c with|true=>exact hb pins s1 σ d Q e q1|false=>exact⟨.bl false,d,e,rfl,q1⟩
noncomputable def tIf(t:TT)(ta tb:TE):TE:=λσ H Q=>t σ H λc d=>if c=true then ta σ d Q else tb σ d Q
theorem rX{c:Expr}(hc:PT X c tA)(ha:PE X a ta)(hb:PE X b tb):PE X (.IfExp c a b pos) (tIf tA ta tb):=by intro pins s σ H Q I h;refine wpAny_IfExp (bL (hc pins s σ H _ I h) λd s1 g=>?_);obtain⟨e,f,q1⟩:=g;cases d with|true=>exact ha pins s1 σ e Q f q1|false=>exact hb pins s1 σ e Q f q1
end
noncomputable def aZ(K:PySem.W.Frag)(H:Hp)(a:Addr)(xs:List V):Prop:=Rd H a (.lst xs)\/∃(o:Obj)(b:Array Value)(n:Nat),K.lookup a=some o/\o.cls= .type "list"/\o.dict=none/\o.data= .seq b n/\b.size<=sizeLine/\Vals xs b.toList
noncomputable def cN(K:PySem.W.Frag)(H:Hp)(a:Addr)(xs:List V):Prop:=Rd H a (.tup xs)\/∃(o:Obj)(b:Array Value)(n:Nat),K.lookup a=some o/\o.cls= .type "tuple"/\o.data= .seq b n/\b.size<=sizeLine/\Vals xs b.toList
noncomputable def XT:Value->Option V| .none=>some .bz| .bool b=>some (.bl b)| .int i _=>some (.int i)| .str x _=>some (.str x)| .bytes b _=>some (.DZ b)| .float b _=>some (.PD b)| .ref a=>some (.ref a)| .type n=>some (.ty n)|_=>none
theorem RelV.abs{x:V}{u:Value}(r:RelV x u):XT u=some x:=by cases x with|bz=>cases r;rfl|bl _=>cases r;rfl|int _=>obtain⟨t,rfl⟩:=r;rfl|str _=>obtain⟨t,rfl⟩:=r;rfl|DZ _=>obtain⟨t,rfl⟩:=r;rfl|PD _=>obtain⟨t,rfl⟩:=r;rfl|ref _=>cases r;rfl|ty _=>cases r;rfl
theorem RelV.inj{x y:V}{u:Value}(r:RelV x u)(q:RelV y u):x=y:=Option.some.inj (r.abs.symm.trans q.abs)
theorem Vals.inj:∀{xs a:List V}{us:List Value},Vals xs us->Vals a us->xs=a|_,_,_, .nil, .nil=>rfl|_,_,_, .cons r t, .cons b t'=>by rw[r.inj b,Vals.inj t t']
section
variable{X:Cx}{pins:List (Addr×Obj)}{σ:St}{H:Hp}{s:Shared}{a:Addr}{xs ys:List V}
theorem aZ.of{K:PySem.W.Frag}(h:H a=some (.lst xs)):aZ K H a xs:= .inl (.inl h)
theorem cN.of{K:PySem.W.Frag}(h:H a=some (.tup xs)):cN K H a xs:= .inl (.inl h)
theorem Inv.list(I:Inv X pins σ H s)(h:aZ X.K H a xs):∃b:List Value,Vals xs b/\PlainL s.heap a b.toArray/\xs.length<=sizeLine:=by
 rcases h with h|⟨o,b,n,c,hc,hd,d,f,r⟩;·obtain⟨z,b,n,r,e⟩:=h.ok I.bV;exact⟨b,r,⟨_,n,e,rfl,rfl,rfl⟩,z⟩
 ·refine⟨b.toList,r,⟨o,n,I.lD a o c,hc,hd,by simpa using d⟩,?_⟩;have e:=r.length;simp only[Array.length_toList]at e;lia
theorem Inv.tuple(I:Inv X pins σ H s)(h:cN X.K H a xs):∃b:List Value,Vals xs b/\IsTup s.heap a b.toArray/\xs.length<=sizeLine:=by
 rcases h with h|⟨o,b,n,c,hc,d,f,r⟩;·obtain⟨z,b,r,p⟩:=h.ok I.bV;exact⟨b,r,p,z⟩
 ·refine⟨b.toList,r,⟨o,I.lD a o c,hc,n,by simpa using d⟩,?_⟩;have e:=r.length;simp only[Array.length_toList]at e;lia
theorem Inv.qi(I:Inv X pins σ H s)(h:aZ X.K H a xs)(h':aZ X.K H a ys):xs=ys:=by
 obtain⟨f,r,⟨o,n,e,_,_,d⟩,_⟩:=I.list h;obtain⟨its',g,⟨o',i,b,_,_,d'⟩,_⟩:=I.list h';rw[e]at b;cases b;rw[d]at d';injection d' with c _;have :f=its':=by simpa using congrArg Array.toList c
 subst this;exact r.inj g
end
noncomputable abbrev Cx.qp(X:Cx)(E:Value->Shared->Prop):Cx:={X with xe:=E}
noncomputable abbrev Cx.L6(X:Cx):Cx:=X.qp λ_ _=>False
theorem Cx.Ok.qp{X:Cx}(ok:X.Ok)(E:Value->Shared->Prop):(X.qp E).Ok:=⟨ok.mod,ok.kind,ok.glob,ok.blt,ok.above,ok.inj,ok.has,ok.Q4,ok.hd,ok.frames,ok.Sg,ok.Wk,ok.bs,ok.D3,ok.xI,ok.Du,ok.jd,ok.Ou⟩
theorem Cx.Ok.eL{X:Cx}{E:Value->Shared->Prop}(ok:(X.qp E).Ok):X.Ok:=⟨ok.mod,ok.kind,ok.glob,ok.blt,ok.above,ok.inj,ok.has,ok.Q4,ok.hd,ok.frames,ok.Sg,ok.Wk,ok.bs,ok.D3,ok.xI,ok.Du,ok.jd,ok.Ou⟩
section
variable{X:Cx}{pins:List (Addr×Obj)}{σ:St}{H:Hp}{s:Shared}{E:Value->Shared->Prop}
theorem Inv.qp(I:Inv X pins σ H s)(E:Value->Shared->Prop):Inv (X.qp E) pins σ H s:=⟨I.ok.qp E,I.os,I.bare,I.base,I.loc,I.cell,I.free,I.d7,I.pin,I.bV,I.len⟩
theorem Inv.eL(I:Inv (X.qp E) pins σ H s):Inv X pins σ H s:=⟨I.ok.eL,I.os,I.bare,I.base,I.loc,I.cell,I.free,I.d7,I.pin,I.bV,I.len⟩
theorem SP.eL{D:Ends}{f:Flow}{s':Shared}(h:SP (X.qp E) pins D f s'):SP X pins D f s':=by cases f with|next=>obtain⟨a,H',I,q⟩:=h;exact⟨a,H',I.eL,q⟩|brk=>obtain⟨a,H',I,q⟩:=h;exact⟨a,H',I.eL,q⟩|cont=>obtain⟨a,H',I,q⟩:=h;exact⟨a,H',I.eL,q⟩|ret u=>obtain⟨v,a,H',I,r,q⟩:=h;exact⟨v,a,H',I.eL,r,q⟩
theorem kq.L6{st:List Stmt}{t:TS}(h:kq X.L6 st t):kq X st t:=λpins s σ H D I hw=>wpAny_mono (h pins s σ H D (I.qp _) hw) (λ_ _ q=>q.eL) λ_ _ z=>False.elim z
end
section
variable{X:Cx}{st:Stmt}{rest:List Stmt}{t u:TS}{e:Expr}{te:TE}{pos:Pos}
noncomputable def Ng:TS:=λD σ H=>D.nx σ H
noncomputable def aI(t u:TS):TS:=λD σ H=>t {D with nx:=u D} σ H
theorem aB:kq X [] Ng:=λ_ _ σ H _ I h=>wpAny_execs_nil ⟨σ,H,I,h⟩
theorem af(h1:PS X st t)(h2:kq X rest u):kq X (st::rest) (aI t u):=by intro pins s σ H D I h;refine wpAny_execs_cons (bL (h1 pins s σ H {D with nx:=u D} I h) λf s1 q=>?_);cases f with|next=>obtain⟨b,H',a,q⟩:=q;exact h2 pins s1 b H' D a q|ret v=>exact q|brk=>exact q|cont=>exact q
theorem ai(h1:PS X st t):kq X [st] t:=by intro pins s σ H D I h;refine wpAny_execs_cons (bL (h1 pins s σ H D I h) λf s1 q=>?_);cases f with|next=>exact wpAny_execs_nil q|ret v=>exact q|brk=>exact q|cont=>exact q
theorem Inv.quiet{pins:List (Addr×Obj)}{σ:St}{H:Hp}{s:Shared}(I:Inv X pins σ H s):interactive X.env=false:=by simp[interactive,I.ok.kind]
noncomputable def Mw(te:TE):TS:=λD σ H=>te σ H λ_ a=>D.nx σ a
theorem cA(he:PE X e te)(c:swapsWith e none pos.line X.env=pure false:=by rfl):PS X (.Expr e pos) (Mw te):=by intro pins s σ H D I h;exact wpAny_Expr_any (bL (he pins s σ H _ I h) λv s1⟨x,a,b,d,q1⟩=>⟨σ,a,b,q1⟩) I.quiet c
noncomputable def Vv(te:TE):TS:=λD σ H=>te σ H D.rt
theorem az(he:PE X e te):PS X (.Return (some e) pos) (Vv te):=by intro pins s σ H D I h;exact wpAny_Return_some (bL (he pins s σ H _ I h) λv s1⟨x,a,b,c,q1⟩=>⟨x,σ,a,b,c,q1⟩)
noncomputable def Qa(c:TT)(t u:TS):TS:=λD σ H=>c σ H λb a=>if b=true then t D σ a else u D σ a
theorem aU{c:Expr}{a b:List Stmt}{i:TT}(hc:PT X c i)(ha:kq X a t)(hb:kq X b u):PS X (.If c a b pos) (Qa i t u):=by intro pins s σ H D I h;refine wpAny_If (bL (hc pins s σ H _ I h) λd s1 j=>?_);obtain⟨f,g,q1⟩:=j;cases d with|true=>exact ha pins s1 σ f D g q1|false=>exact hb pins s1 σ f D g q1
end
noncomputable abbrev TG:=V->St->Hp->(St->Hp->Prop)->Prop
noncomputable abbrev Qr:=List V->St->Hp->(St->Hp->Prop)->Prop
noncomputable def PG(X:Cx)(target:Expr)(t:TG):Prop:=∀(pins:List (Addr×Obj))(s:Shared)(σ:St)(H:Hp)(v:V)(u:Value)(Q:St->Hp->Prop),Inv X pins σ H s->RelV v u->t v σ H Q->wpAny (model X.prog X.w) X.A (assign target X.env u) (λ_ s'=>∃a H',Inv X pins a H' s'/\Q a H') X.xe s
noncomputable def zc(X:Cx)(b:List Expr)(t:Qr):Prop:=∀(pins:List (Addr×Obj))(s:Shared)(σ:St)(H:Hp)(vs:List V)(us:List Value)(Q:St->Hp->Prop),Inv X pins σ H s->Vals vs us->t vs σ H Q->wpAny (model X.prog X.w) X.A (assignInOrder ((assignEach b X.env).map (·.2)) us) (λ_ s'=>∃a H',Inv X pins a H' s'/\Q a H') X.xe s
noncomputable abbrev Nk:=V->V->V->Hp->(Hp->Prop)->Prop
noncomputable def Rp(X:Cx)(t:Nk):Prop:=∀(pins:List (Addr×Obj))(s:Shared)(σ:St)(H:Hp)(o i v:V)(b a u:Value)(Q:Hp->Prop),Inv X pins σ H s->RelV o b->RelV i a->RelV v u->t o i v H Q->wpAny (model X.prog X.w) X.A (setItem b a u) (λ_ s'=>∃H',Inv X pins σ H' s'/\Q H') X.xe s
noncomputable abbrev W5:=V->V->Hp->VK->Prop
noncomputable def PIp(X:Cx)(op:Operator)(t:W5):Prop:=∀(pins:List (Addr×Obj))(s:Shared)(σ:St)(H:Hp)(x y:V)(v u:Value)(Q:VK),Inv X pins σ H s->RelV x v->RelV y u->t x y H Q->wpAny (model X.prog X.w) X.A (inplaceOp op v u) (EP X pins σ Q) X.xe s
section
variable{X:Cx}{pos:Pos}
noncomputable def sZ(i:Nat):TG:=λv σ H Q=>Q (σ.set i (some v)) H
theorem bu{i:Nat}{x:Str}(b:X.N.Nodup)(hi:X.N[i]?=some x)(d:Loc X.env.scope x)(c:X.fn x=true\/X.env.scope.names.lookup x=some .local:=by first|exact .inl rfl|exact .inr rfl|assumption):PG X (.Name x pos) (sZ i):=by intro pins s σ H v u Q I r h;exact wpAny_assign_Name (jt I b hi d r (λs' a=>⟨_,H,a,h⟩) c)
noncomputable def YX:Qr:=λvs σ H Q=>vs=[]/\Q σ H
noncomputable def R5(t:TG)(u:Qr):Qr:=λvs σ H Q=>∃v r,vs=v::r/\t v σ H λa H'=>u r a H' Q
theorem A5:zc X [] YX:=by intro pins s σ H vs us Q I r h;obtain⟨e,h⟩:=h;subst e;cases r;exact assignInOrder_nil ⟨σ,H,I,h⟩
theorem jH{e:Expr}{es:List Expr}{t:TG}{u:Qr}(h1:PG X e t)(h2:zc X es u)(d:(assignEach (e::es) X.env).map (·.2)=assign e X.env::(assignEach es X.env).map (·.2):=by rfl):zc X (e::es) (R5 t u):=by intro pins s σ H vs us Q I r h;obtain⟨v,j,c,h⟩:=h;subst c;cases r with|cons r f=>rw[d];refine assignInOrder_cons (bL (h1 pins s σ H _ _ _ I r h) λ_ s1 g=>?_);obtain⟨i,a,b,q1⟩:=g;exact h2 pins s1 i a _ _ Q b f q1
noncomputable def Zv(K:PySem.W.Frag)(n:Nat)(t:Qr):TG:=λv σ H Q=>∃a xs,v= .ref a/\cN K H a xs/\xs.length=n/\t xs σ H Q
theorem FU{es:List Expr}{k:Nat}{t:Qr}{n:Nat}(hc:X.calm=true)(h:zc X es t)(hn:(assignEach es X.env).length=n:=by rfl)(g:(assignEach es X.env).findIdx? (·.1)=none:=by rfl):PG X (.Tuple es k pos) (Zv X.K n t):=by intro pins s σ H v u Q I r hw;obtain⟨a,xs,f,hq,hl,hw⟩:=hw;subst f;cases r;obtain⟨j,c,ht,l⟩:=I.tuple hq;refine Kp (I.hb hc) (show s.heap.IsTuple a j.toArray from ht) (by simp[hn,<-hl,c.length]) g λh' i=>?_;have d:Inv X pins σ H {s with heap:=h'}:=I.kept (t':=s.toks) λb o e=>i b o (zQ23 (zQ07 e)) e;exact h pins _ σ H xs _ Q d (by simpa using c) hw
noncomputable def ZA(to d:TE)(t:Nk):TG:=λv σ H Q=>to σ H λo a=>d σ a λi b=>t o i v b λc=>Q σ c
theorem Gd{o i:Expr}{to d:TE}{t:Nk}(ho:PE X o to)(hi:PE X i d)(m:Rp X t)(ha:∀v,assign (.Subscript o i pos) X.env v=(do let a<-holding [v] (eval o X.env);let b<-holding [v,a] (eval i X.env);standAt pos;holding [v,a,b] (setItem a b v);release [v,a,b] []):=by intro _;rfl):PG X (.Subscript o i pos) (ZA to d t):=by intro pins s σ H v u Q I r h;rw[ha];refine zQ00 (eN (bL (ho pins s σ H _ I h) λa s1 c=>?_));obtain⟨x,e,j,n,q1⟩:=c;refine zQ00 (eN (bL (hi pins s1 σ e _ j q1) λb s2 c=>?_));obtain⟨y,f,k,p,q2⟩:=c;refine zQ00 (wpAny_standAt (zQ00 (eN (bL (m pins s2 σ f x y v a b u _ k n p r q2) λ_ q c=>?_))));obtain⟨g,l,q3⟩:=c;exact wpAny_release ⟨σ,g,l,q3⟩
noncomputable def PY(b:TE)(g:TG):TS:=λD σ H=>b σ H λx a=>g x σ a D.nx
theorem E6{tg e:Expr}{a:TE}{g:TG}(he:PE X e a)(d:PG X tg g)(f:swapsWithSole [tg] e pos.line X.env=pure false:=by rfl)(hw:swappedStores [tg] e X.env=pure none:=by rfl)(h1:(assignEach [tg] X.env).map (·.2)=[assign tg X.env]:=by rfl):PS X (.Assign [tg] e pos) (PY a g):=by intro pins s σ H D I h;refine wpAny_Assign_stores (bL (he pins s σ H _ I h) λv s1 j=>?_) f hw;obtain⟨x,b,c,i,q1⟩:=j;rw[h1];exact bL (d pins s1 σ b x v _ c i q1) λ_ s2 q=>q
theorem aE{i:Nat}{x:Str}{e:Expr}{a:TE}{pos':Pos}(f:X.N.Nodup)(hi:X.N[i]?=some x)(k:Loc X.env.scope x)(he:PE X e a)(j:swapsWith e (some (.Name x pos')) pos.line X.env=pure false:=by rfl)(g:X.fn x=true\/X.env.scope.names.lookup x=some .local:=by first|exact .inl rfl|exact .inr rfl|assumption):PS X (.Assign [.Name x pos'] e pos) (PY a (sZ i)):=by intro pins s σ H D I h;refine wpAny_Assign_Name (bL (he pins s σ H _ I h) λv s1 m=>?_) j;obtain⟨y,b,c,l,q1⟩:=m;exact jt c f hi k l (λs2 d=>⟨_,b,d,q1⟩) g
noncomputable def YW(i:Nat)(c:TE)(d:W5):TS:=λD σ H=>∃x,σ[i]?=some (some x)/\c σ H λy a=>d x y a λz b=>D.nx (σ.set i (some z)) b
theorem OA{i:Nat}{x:Str}{e:Expr}{f:TE}{op:Operator}{g:W5}{pos':Pos}(A:X.N.Nodup)(hi:X.N[i]?=some x)(b:Loc X.env.scope x)(he:PE X e f)(ho:PIp X op g)(C:X.fn x=true\/X.env.scope.names.lookup x=some .local:=by first|exact .inl rfl|exact .inr rfl|assumption):PS X (.AugAssign (.Name x pos') op e pos) (YW i f g):=by
 intro pins s σ H D I h;obtain⟨v,t,h⟩:=h;obtain⟨m,hn,hl⟩:=I.loc;have J:SM X.env.scope x:=by rcases b with k|k;exact .inl k;exact .inr (.inl k)
 obtain⟨u,r,l⟩:=hl i x v hi t J;refine wpAny_AugAssign_Name ?_;have go:wpAny (model X.prog X.w) X.A (eval e X.env) (λw s₂=>wpAny (model X.prog X.w) X.A (inplaceOp op u w) (λr G=>wpAny (model X.prog X.w) X.A (storeName X.env x r) (λ_=>SP X pins D .next) X.xe G) X.xe s₂) X.xe s:=by refine bL (he pins s σ H _ I h) λw s1 d=>?_;obtain⟨y,j,o,E,q1⟩:=d;refine bL (ho pins s1 σ j v y u w _ o r E q1) λz s2 d=>?_;obtain⟨L,n,p,F,q2⟩:=d;exact jt p A hi b F (λK q=>⟨_,n,q,q2⟩) C
 rcases l with⟨a,hm⟩|⟨a,c,hc,B⟩;·exact wpAny_loadName_local I.ok.kind a hn hm go
 ·rcases a with a|a;·exact wpAny_loadName_cell I.ok.kind a hc B go
  ·rcases b with k|k;·have :X.env.scope.names.lookup x=some .free:=a;rw[k]at this;cases this
   ·have :X.env.scope.names.lookup x=some .free:=a;rw[k]at this;cases this
noncomputable def ipI(f:Int->Int->Int):W5:=λx y H Q=>∃i j,x= .int i/\y= .int j/\Q (.int (f i j)) H
theorem PU:PIp X .Add (ipI λi j=>i+j):=by intro pins s σ H x y v u Q I c d h;obtain⟨i,j,a,b,q⟩:=h;subst a;subst b;obtain⟨t,rfl⟩:=c;obtain⟨t',rfl⟩:=d;exact iadd_int ⟨.int _,H,I.tok _,⟨_,rfl⟩,q⟩
end
section
variable{X:Cx}{pos:Pos}
noncomputable def N1(c:TT)(tb:TS):TS:=λD σ H=>∃W:Nat->St->Hp->Prop,(∃m,W m σ H)/\∀m σ H,W m σ H->c σ H λb a=>if b=true then∃N:St->Hp->Prop,(∀e H',N e H'->∃d,d<m/\W d e H')/\tb {D with nx:=N,ct:=N,bk:=D.nx} σ a else D.nx σ a
theorem qP{c:Expr}{body:List Stmt}{r:TT}{tb:TS}(q:PassesOwn (model X.prog X.w) X.A X.env X.xe)(hc:PT X c r)(hb:kq X body tb):PS X (.While c body [] pos) (N1 r tb):=by
 intro pins s σ H D I h;obtain⟨W,⟨w,w0⟩,turn⟩:=h;refine wpAny_While (codeAny_whileLoop (λn s'=>∃t H',Inv X pins t H' s'/\W n t H') ?_ w ⟨σ,H,I,w0⟩);rintro n s1⟨e,l,u,x⟩;refine wpAny_passesOwn q (bL (hc pins s1 e l _ u (turn n e l x)) λb s2 y=>?_);obtain⟨m,o,q2⟩:=y;cases b with
  |true=>obtain⟨N,p,q2⟩:=q2;rw[if_pos rfl];refine wpAny_passesOwn q (bL (hb pins s2 e m _ o q2) λf z q3=>?_);cases f with|next=>obtain⟨d,a,g,j⟩:=q3;obtain⟨i,hm,k⟩:=p d a j;exact⟨i,hm,d,a,g,k⟩|cont=>obtain⟨d,a,g,j⟩:=q3;obtain⟨i,hm,k⟩:=p d a j;exact⟨i,hm,d,a,g,k⟩|brk=>exact q3|ret v=>exact q3
  |false=>rw[if_neg dA];exact wpAny_execs_nil ⟨e,m,o,q2⟩
end
structure It where
 go:Nat->Hp->Prop
 DH:Nat->Hp->V->Hp->Prop
 stop:Nat->Hp->Prop
noncomputable def mm(X:Cx)(pins:List (Addr×Obj))(H:Hp)(b:Addr):Prop:=H b=none/\b≠X.env.locals/\b∉X.fs/\(b∈X.ex\/X.bU.heap.objs.size<=b)/\(∀x c,X.env.cells.lookup x=some c->c≠b)/\∀p∈X.pn++pins,p.1≠b
theorem Inv.KH{X:Cx}{pins:List (Addr×Obj)}{σ:St}{H H':Hp}{s:Shared}{b:Addr}(I:Inv X pins σ H s)(hb:s.heap.objs.size<=b)(hn:H' b=none):mm X pins H' b:=by
 refine⟨hn,Nat.ne_of_gt (eB I.lt hb),I.YY hb, .inr (cB I.sz hb),λx c e z=>?_,λp a z=>?_⟩;·obtain⟨v,q⟩:=I.cell x c e;exact absurd (eB q.lt (by rw[z];exact hb)) (Nat.lt_irrefl _)
 ·exact absurd (eB (zQ07 (I.pin p a).1) (by rw[z];exact hb)) (Nat.lt_irrefl _)
structure Turn(P:Program)(w:World)(K:PySem.W.Frag)(tg:Expr)(J:It)(fp:List Addr)(it:Addr)(tn:Nat->Heap->Prop):Prop where
 mem:it∈fp
 obj:∀i h,tn i h->∀b∈fp,∃o,h.get? b=some o/\∀v,o.data≠ .cell v
 keep:∀i h h',tn i h->(∀b∈fp,∀o,h.get? b=some o->h'.get? b=some o)->tn i h'
 item:∀(X:Cx),X.prog=P->X.w=w->X.K=K->X.calm=true->∀(i:Nat)(pins:List (Addr×Obj))(s:Shared)(σ:St)(H:Hp)(E:Value->Shared->Prop),Inv X pins σ H s->(∀b∈fp,mm X pins H b)->tn i s.heap->J.go i H->wpAny (model P w) X.A (pyNext (.ref it)) (λr s1=>∃u,r=some u/\wpAny (model P w) X.A (letOwnedTupleGo tg (.ref it) u) (λ_ s2=>∃x H',Inv X pins σ H' s2/\RelV x u/\J.DH i H x H'/\tn (i+1) s2.heap/\∀b∈fp,H' b=none) E s1) E s
 done:∀(X:Cx),X.prog=P->X.w=w->X.K=K->X.calm=true->∀(i:Nat)(pins:List (Addr×Obj))(s:Shared)(σ:St)(H:Hp)(E:Value->Shared->Prop),Inv X pins σ H s->(∀b∈fp,mm X pins H b)->tn i s.heap->J.stop i H->wpAny (model P w) X.A (pyNext (.ref it)) (λr s1=>r=none/\Inv X pins σ H s1) E s
 self:∀(A:Around)(i:Nat)(s:Shared)(Q:Value->Shared->Prop)(E:Value->Shared->Prop),tn i s.heap->Q (.ref it) s->wpAny (model P w) A (pyIter (.ref it)) Q E s
noncomputable abbrev TI:=St->Hp->(It->Hp->Prop)->Prop
noncomputable def PIE(X:Cx)(pins:List (Addr×Obj))(σ:St)(tg:Expr)(R:It->Hp->Prop)(a:Value)(s2:Shared):Prop:=∃(it:Addr)(fp:List Addr)(tn:Nat->Heap->Prop)(J:It)(H':Hp),a= .ref it/\Inv X pins σ H' s2/\Turn X.prog X.w X.K tg J fp it tn/\tn 0 s2.heap/\(∀b∈fp,mm X pins H' b)/\R J H'
noncomputable def PI(X:Cx)(tg iter:Expr)(a:TI):Prop:=∀(pins:List (Addr×Obj))(s:Shared)(σ:St)(H:Hp)(R:It->Hp->Prop),Inv X pins σ H s->a σ H R->wpAny (model X.prog X.w) X.A (eval iter X.env) (λv s1=>wpAny (model X.prog X.w) X.A (pyIter v) (PIE X pins σ tg R) X.xe s1) X.xe s
theorem EV{M:Model}{A:Around}{E:Value->Shared->Prop}{s:Shared}{tg:Expr}{it:Addr}{u:Value}{o:Obj}{n:String}{vs:Array Value}{Q:Unit->Shared->Prop}(ho:s.heap.get? it=some o)(hc:o.cls= .type n)(hd:o.data= .fields vs)(hn:["enumerate","zip","dict_itemiterator","dict_reverseitemiterator","odict_iterator","itertools.zip_longest","itertools.pairwise"].contains n=false)(a:Q () s):wpAny M A (letOwnedTupleGo tg (.ref it) u) Q E s:=by unfold letOwnedTupleGo;cases tg<;>first|exact zQ02 a|(cases u<;>first|exact zQ02 a|(refine zQ00 (wpAny_load ho ?_);rw[hc,hd];show wpAny M A (if(["enumerate","zip","dict_itemiterator","dict_reverseitemiterator","odict_iterator","itertools.zip_longest","itertools.pairwise"].contains n&&vs[0]?==some (rawInt _))=true then _ else _) Q E s;rw[if_neg (by intro h;rw[hn,Bool.false_and]at h;cases h)];exact zQ02 a))
noncomputable def UY(K:PySem.W.Frag)(a:Addr):It:=⟨λi H=>∃xs x,aZ K H a xs/\xs[i]?=some x,λi H x H'=>H'=H/\∀xs,aZ K H a xs->xs[i]?=some x,λi H=>∃xs,aZ K H a xs/\xs.length<=i⟩
noncomputable def WE(lo:Int)(n:Nat):It:=⟨λi _=>i<n,λi H x H'=>H'=H/\x= .int (lo+i),λi _=>n<=i⟩
theorem CQ{P:Program}{w:World}{K:PySem.W.Frag}{tg:Expr}(a it:Addr):Turn P w K tg (UY K a) [it] it (λi h=>h.IsListIter it a i)where
 mem:=by simp
 obj:=λi h st b hb=>by
  have e:b=it:=by simpa using hb
  subst e;obtain⟨o,e,c,d⟩:=st;exact⟨o,e,λv z=>by rw[d]at z;cases z⟩
 keep:=λi h h' st k=>st.at λo e=>k it (by simp) o e;item:=by intro X q hw n hc i pins s σ H E I j st r;subst q hw n;obtain⟨xs,x,hq,t⟩:=r;obtain⟨G,y,p,F⟩:=I.list hq;obtain⟨u,C,J⟩:=y.get t;obtain⟨l,f1,f2,f,m,g⟩:=j it (by simp);refine wpAny_pyNext_list_item st p.isList (x:=u) (by simpa using C) λh' xn sb=>?_;have A:Inv X pins σ H {s with heap:=h'}:=I.turned (t':=s.toks) (λb o hb e=>(sb.2 b hb).trans e) l f1 f m g;obtain⟨o,e,c,d⟩:=id xn;exact⟨u,rfl,EV (s:={s with heap:=h'}) e c d (by decide) ⟨x,H,A,J,⟨rfl,λL D=>by rw[I.qi D hq];exact t⟩,xn,λb hb=>(j b hb).1⟩⟩
 done:=by intro X q hw n hc i pins s σ H E I j st r;subst q hw n;obtain⟨xs,hq,t⟩:=r;obtain⟨G,y,p,F⟩:=I.list hq;obtain⟨l,f1,f2,f,m,g⟩:=j it (by simp);have hl:=y.length;exact iE (I.hb hc) (I.Qo hc f g) st p.isList (by simp;lia) λh' B=>⟨rfl,I.turned (t':=s.toks) (λb o hb e=>B b o hb e) l f1 f m g⟩
 self:=λ_ _ _ _ _ st h=>wpAny_pyIter_listiter st h
theorem ze{P:Program}{w:World}{K:PySem.W.Frag}{tg:Expr}(it:Addr)(lo:Int)(n:Nat):Turn P w K tg (WE lo n) [it] it (λi h=>IsRangeIter h it (lo+(i:Nat)*1) ((n:Int)-(i:Nat)) 1)where
 mem:=by simp
 obj:=λi h st b hb=>by
  have e:b=it:=by simpa using hb
  subst e;exact⟨_,st,λv z=>by have u:Data.fields _=Data.cell v:=z;cases u⟩
 keep:=λi h h' st k=>k it (by simp) _ st;item:=by intro X l hw j hc i pins s σ H E I a st m;subst l hw j;obtain⟨c,f1,f2,d,f,g⟩:=a it (by simp);refine y_ m st λv h' tk hv xn r=>?_;obtain⟨t,rfl⟩:=hv;have p:Inv X pins σ H {s with heap:=h',toks:=tk}:=I.turned (λb o hb e=>r b o (by simpa using hb) e) c f1 d f g;refine⟨_,rfl,EV (s:={s with heap:=h',toks:=tk}) (n:="range_iterator") xn rfl rfl (by decide) ⟨.int (lo+i),H,p,⟨t,?_⟩,⟨rfl,rfl⟩,xn,λb hb=>(a b hb).1⟩⟩;rw[Int.mul_one]
 done:=by intro X l hw j hc i pins s σ H E I a st m;subst l hw j;obtain⟨c,f1,f2,d,f,g⟩:=a it (by simp);exact rn (I.hb hc) st (by have :n<=i:=m;lia) λh' q=>⟨rfl,I.turned (t':=s.toks) (λb o hb e=>q b o hb e) c f1 d f g⟩
 self:=λ_ _ _ _ _ st h=>wpAny_pyIter_rangeiter st h
section
variable{X:Cx}{tg:Expr}
noncomputable def VO(K:PySem.W.Frag)(tl:TE):TI:=λσ H R=>tl σ H λx b=>∃a,x= .ref a/\(∃xs,aZ K b a xs)/\R (UY K a) b
theorem nE{l:Expr}{tl:TE}(hl:PE X l tl):PI X tg l (VO X.K tl):=by
 intro pins s σ H R I h;refine bL (hl pins s σ H _ I h) λv s1 g=>?_;obtain⟨x,d,c,f,q1⟩:=g;obtain⟨a,e,⟨xs,hq⟩,q⟩:=q1;subst e;cases f;obtain⟨j,k,p,i⟩:=c.list hq;refine wpAny_pyIter_list p.isList ?_;refine⟨s1.heap.objs.size,[s1.heap.objs.size],_,_,d,rfl,c.kept (t':=s1.toks) λb o e=>zQ01 _ e,CQ a _,⟨_,zQ11 _ rfl,rfl,rfl⟩,λb hb=>?_,q⟩;have e:b=s1.heap.objs.size:=by simpa using hb
 subst e;exact c.KH (zQ04 _) (c.bV.fresh (zQ04 _))
theorem x6{pins:List (Addr×Obj)}{σ:St}{H:Hp}{s:Shared}{R:It->Hp->Prop}{E:Value->Shared->Prop}{lo hi:Int}{t u v:Tok}{tk:Nat}(I:Inv X pins σ H s)(h1:-(2^62)<=lo)(h2:lo<2^62)(h3:-(2^62)<=hi)(h4:hi<2^62)(q:R (WE lo (hi-lo).toNat) H):wpAny (model X.prog X.w) X.A (pyIter (.ref s.heap.objs.size)) (PIE X pins σ tg R) E {s with heap:=s.heap.push {cls:= .type "range",data:= .fields #[.int lo t, .int hi u, .int 1 v]},toks:=tk}:=by
 refine wpAny_pyIter_range (IsRange.new ..) (small_one h1 h2 h3 h4) ?_;have a:Inv X pins σ H {s with heap:=s.heap.push {cls:= .type "range",data:= .fields #[.int lo t, .int hi u, .int 1 v]},toks:=tk}:=I.kept λb o e=>zQ01 _ e;refine⟨(s.heap.push {cls:= .type "range",data:= .fields #[.int lo t, .int hi u, .int 1 v]}).objs.size,[(s.heap.push {cls:= .type "range",data:= .fields #[.int lo t, .int hi u, .int 1 v]}).objs.size],_,_,H,rfl,a.kept (t':=tk) λb o e=>zQ01 _ e,ze _ lo (hi-lo).toNat,?_,λb hb=>?_,q⟩
 ·have c:lo+((0:Nat):Int)*1=lo:=by simp
  have d:(((hi-lo).toNat:Nat):Int)-((0:Nat):Int)=Builtin.Range.rangeSize lo hi 1:=by rw[rangeSize_one];split<;>lia
  show IsRangeIter _ _ (lo+((0:Nat):Int)*1) ((((hi-lo).toNat:Nat):Int)-((0:Nat):Int)) 1;rw[c,d];exact zQ11 _ rfl
 ·have e:b=(s.heap.push {cls:= .type "range",data:= .fields #[.int lo t, .int hi u, .int 1 v]}).objs.size:=by simpa using hb
  subst e;exact a.KH (zQ04 _) (a.bV.fresh (zQ04 _))
noncomputable def SE(b:TA):TI:=λσ H R=>b σ H λvs a=>∃j:Int,vs=[.int j]/\-(2^62)<=j/\j<2^62/\R (WE 0 j.toNat) a
noncomputable def SK(b:TA):TI:=λσ H R=>b σ H λvs a=>∃i j:Int,vs=[.int i, .int j]/\(-(2^62)<=i/\i<2^62/\-(2^62)<=j/\j<2^62)/\R (WE i (j-i).toNat) a
theorem fR{a:Expr}{c:TA}{p b:Pos}(f:Gl X "range")(hm:X.mg "range"=none)(ha:PA X [a] c)(g:starEach [a] X.env=[(false,eval a X.env)]:=by rfl):PI X tg (.Call (.Name "range" p) [a] [] b) (SE c):=by intro pins s σ H R I h;refine Call_ (gr I f hm boot_range (PyProof.Rows.callWith_type1 (bL (ha b pins s σ H _ I h) λus s1 l=>?_) g rfl));obtain⟨vs,m,d,i,q1⟩:=l;obtain⟨j,e,q1,q2,q⟩:=q1;subst e;cases i with|cons r k=>cases k;obtain⟨t,rfl⟩:=r;exact call_range_1 (x6 d (by lia) (by lia) q1 q2 (by simpa using q))
theorem j_{a b:Expr}{g:TA}{p f:Pos}(l:Gl X "range")(hm:X.mg "range"=none)(ha:PA X [a,b] g)(m:starEach [a,b] X.env=[(false,eval a X.env),(false,eval b X.env)]:=by rfl)(d:starEach [b] X.env=[(false,eval b X.env)]:=by rfl):PI X tg (.Call (.Name "range" p) [a,b] [] f) (SK g):=by intro pins s σ H R I h;refine Call_ (gr I l hm boot_range (PyProof.Rows.callWith_type1 (bL (ha f pins s σ H _ I h) λus s1⟨vs,u,k,o,q1⟩=>?_) (by rw[m,d]) (by rw[d];rfl)));obtain⟨i,j,e,⟨q1,q2,q3,q4⟩,q⟩:=q1;subst e;cases o with|cons r c=>cases c with|cons n c=>cases c;obtain⟨t,rfl⟩:=r;obtain⟨t',rfl⟩:=n;exact call_range_2 (x6 k q1 q2 q3 q4 q)
noncomputable def Xa(e:TI)(g:TG)(tb:TS):TS:=λD σ H=>e σ H λJ c=>∃W:Nat->Nat->St->Hp->Prop,(∃m,W 0 m σ c)/\∀i m σ H,W i m σ H->(J.stop i H/\D.nx σ H)\/(J.go i H/\∃N:St->Hp->Prop,(∀b H',N b H'->∃a,a<m/\W (i+1) a b H')/\∀x H',J.DH i H x H'->g x σ H' λf d=>tb {D with nx:=N,ct:=N,bk:=D.nx} f d)
noncomputable def qZ(fp:List Addr)(h:Heap):List (Addr×Obj):=fp.filterMap λb=>(h.get? b).map λo=>(b,o)
theorem gk{fp:List Addr}{h:Heap}{b:Addr}{o:Obj}(hb:b∈fp)(e:h.get? b=some o):(b,o)∈qZ fp h:=List.mem_filterMap.mpr ⟨b,hb,by rw[e];rfl⟩
theorem C9{fp:List Addr}{h:Heap}{p:Addr×Obj}(c:p∈qZ fp h):p.1∈fp/\h.get? p.1=some p.2:=by obtain⟨b,hb,e⟩:=List.mem_filterMap.mp c;cases q:h.get? b with|none=>rw[q]at e;cases e|some o=>rw[q]at e;have a:(b,o)=p:=Option.some.inj e;subst a;exact⟨hb,q⟩
theorem Inv.pinned{pins:List (Addr×Obj)}{σ:St}{H:Hp}{s:Shared}{fp:List Addr}(I:Inv X pins σ H s)(f:∀b∈fp,mm X pins H b)(ho:∀b∈fp,∃o,s.heap.get? b=some o/\∀v,o.data≠ .cell v):Inv X (pins++qZ fp s.heap) σ H s:=I.m7 λp g=>(List.mem_append.mp g).elim (λz=>I.pin p (kA _ z)) λz=>by obtain⟨hb,e⟩:=C9 z;obtain⟨c,f1,f2,_⟩:=f p.1 hb;obtain⟨o,a,d⟩:=ho p.1 hb;rw[e]at a;cases a;exact⟨e,c,f1,f2,d⟩
theorem Inv.jO{pins b:List (Addr×Obj)}{σ:St}{H:Hp}{s:Shared}(I:Inv X (pins++b) σ H s):Inv X pins σ H s:=I.m7 λp a=>I.pin p (kA _ (sD _ a))
theorem dC{iter:Expr}{body:List Stmt}{M:TI}{g:TG}{tb:TS}{pos:Pos}(p:PassesOwn (model X.prog X.w) X.A X.env X.xe)(hc:X.calm=true)(hi:PI X tg iter M)(hg:PG X tg g)(hb:kq X body tb)(hs:∀x,foldedSetIterable iter X.env x=pure x:=by intro _;rfl):PS X (.For tg iter body [] pos) (Xa M g tb):=by
 intro pins s σ H D I h;refine wpAny_For (bL (hi pins s σ H _ I h) λv s1 h1=>bL h1 λZH s2 h2=>?_) hs;obtain⟨it,fp,tn,J,O,e,Q,T,WI,f2,W,⟨m0,w0⟩,turn⟩:=h2;subst e;have B:∀{H':Hp},(∀b∈fp,H' b=none)->∀b∈fp,mm X pins H' b:=λhn b hb=>⟨hn b hb,(f2 b hb).2⟩;refine codeAny_forLoop_any (λn s'=>∃i t H',Inv X pins t H' s'/\tn i s'.heap/\(∀b∈fp,H' b=none)/\W i n t H') ?_ m0 ⟨0,σ,O,Q,WI,λb hb=>(f2 b hb).1,w0⟩;rintro n G⟨i,w,y,E,L,F,w3⟩;rcases turn i n w y w3 with⟨stop,qn⟩|⟨go,N,Z,step⟩;·refine wpAny_passesOwn p (bL (T.done X rfl rfl rfl hc i pins G w y X.xe E (B F) L stop) λr s4 l=>?_);obtain⟨hr,R⟩:=l;subst hr;exact wpAny_execs_nil ⟨w,y,R,qn⟩
 ·refine wpAny_passesOwn p (bL (T.item X rfl rfl rfl hc i pins G w y X.xe E (B F) L go) λr s4 l=>?_);obtain⟨u,hr,h4⟩:=l;subst hr;refine wpAny_passesOwn p (bL h4 λ_ K l=>?_);obtain⟨x,C,S,r5,y5,A,Y⟩:=l;have U:=S.pinned (B Y) (T.obj _ _ A);refine wpAny_passesOwn p (bL (hg _ K w C x u _ U r5 (step x C y5)) λ_ s6 l=>?_);obtain⟨σ6,P,V,q6⟩:=l;refine wpAny_passesOwn p (bL (hb _ s6 σ6 P _ V q6) λf z k=>?_);have again:∀{j:St}{a:Hp},Inv X (pins++qZ fp K.heap) j a z->N j a->∃m,m<n/\∃i t H',Inv X pins t H' z/\tn i z.heap/\(∀b∈fp,H' b=none)/\W i m t H':=λ{j a}c q=>by obtain⟨m',hm,w7⟩:=Z j a q;refine⟨m',hm,i+1,j,a,c.jO,T.keep _ _ _ A λb hb o e=>(c.pin (b,o) (kA _ (kA _ (gk hb e)))).1,λb hb=>?_,w7⟩;obtain⟨o,e,d⟩:=T.obj _ _ A b hb;exact(c.pin (b,o) (kA _ (kA _ (gk hb e)))).2.1
  cases f with|next=>obtain⟨j,a,c,q⟩:=k;exact again c q|cont=>obtain⟨j,a,c,q⟩:=k;exact again c q|brk=>obtain⟨j,a,c,k⟩:=k;exact⟨j,a,c.jO,k⟩|ret v=>obtain⟨x7,j,a,c,r7,k⟩:=k;exact⟨x7,j,a,c.jO,r7,k⟩
end
theorem Hi{K:PySem.W.Frag}{a:Addr}{xs:List V}{g:TG}{tb:TS}{D:Ends}{σ:St}{H:Hp}(Pv:Nat->St->Hp->Prop)(h:Pv 0 σ H)(hl:∀i σ H,i<=xs.length->Pv i σ H->aZ K H a xs)(j:∀i x σ H,xs[i]?=some x->Pv i σ H->g x σ H λd b=>tb {D with nx:=Pv (i+1),ct:=Pv (i+1),bk:=D.nx} d b)(hd:∀σ H,Pv xs.length σ H->D.nx σ H):∃W:Nat->Nat->St->Hp->Prop,(∃m,W 0 m σ H)/\∀i m σ H,W i m σ H->((UY K a).stop i H/\D.nx σ H)\/((UY K a).go i H/\∃N:St->Hp->Prop,(∀c H',N c H'->∃f,f<m/\W (i+1) f c H')/\∀x H',(UY K a).DH i H x H'->g x σ H' λd b=>tb {D with nx:=N,ct:=N,bk:=D.nx} d b):=by
 refine⟨λi m σ H=>m=xs.length-i/\i<=xs.length/\Pv i σ H,⟨xs.length,by simp,zQ27 _,h⟩,?_⟩;rintro i m σ H⟨rfl,hi,p⟩;have q:=hl i σ H hi p;by_cases hlt:i<xs.length;·refine .inr ⟨⟨xs,xs[i],q,by simp[hlt]⟩,Pv (i+1),λc H' k=>⟨xs.length-(i+1),by lia,rfl,hlt,k⟩,λx H' y=>?_⟩;obtain⟨e,y⟩:=y;subst e;exact j i x σ _ (y xs q) p
 ·have e:i=xs.length:=by lia
  subst e;exact .inl ⟨⟨xs,q,zQ04 _⟩,hd σ H p⟩
noncomputable abbrev R2:=V->V->Hp->VK->Prop
noncomputable def il(X:Cx)(f:Value->Value->Sem Value)(r:R2):Prop:=∀(pins:List (Addr×Obj))(s:Shared)(σ:St)(H:Hp)(x y:V)(v u:Value)(Q:VK),Inv X pins σ H s->RelV x v->RelV y u->r x y H Q->wpAny (model X.prog X.w) X.A (f v u) (EP X pins σ Q) X.xe s
noncomputable def Zi(X:Cx)(f:Value->Sem Value)(r:V->Hp->VK->Prop):Prop:=∀(pins:List (Addr×Obj))(s:Shared)(σ:St)(H:Hp)(x:V)(v:Value)(Q:VK),Inv X pins σ H s->RelV x v->r x H Q->wpAny (model X.prog X.w) X.A (f v) (EP X pins σ Q) X.xe s
noncomputable def eV(X:Cx)(f:Value)(r:List V->Hp->VK->Prop):Prop:=∀(pins:List (Addr×Obj))(s:Shared)(σ:St)(H:Hp)(xs:List V)(us:List Value)(Q:VK),Inv X pins σ H s->Vals xs us->r xs H Q->wpAny (model X.prog X.w) X.A (call f us) (EP X pins σ Q) X.xe s
noncomputable def JO(r:R2)(c tb:TE):TE:=λσ H Q=>c σ H λx a=>tb σ a λy b=>r x y b Q
noncomputable def tUn(r:V->Hp->VK->Prop)(b:TE):TE:=λσ H Q=>b σ H λx a=>r x a Q
noncomputable def rI(C:Int->Int->Prop)(g:Int->Int->V):R2:=λx y H Q=>∃i j,x= .int i/\y= .int j/\C i j/\Q (g i j) H
noncomputable def KU(g:Int->Int->V):R2:=λx y H Q=>∃i j,x= .int i/\y= .int j/\Q (g i j) H
noncomputable def rU(g:Int->V):V->Hp->VK->Prop:=λx H Q=>∃i,x= .int i/\Q (g i) H
section
variable{X:Cx}{a b c:Expr}{ta tb tc:TE}{pos:Pos}
theorem PV(ha:PE X a ta)(hb:PE X b tb){pins:List (Addr×Obj)}{s:Shared}{σ:St}{H:Hp}{R:V->V->Hp->Prop}(I:Inv X pins σ H s)(h:ta σ H λx e=>tb σ e λy d=>R x y d){Q:Value->Shared->Prop}{f:Value->Value->Sem Value}(k:∀v u s2 x y d,Inv X pins σ d s2->RelV x v->RelV y u->R x y d->wpAny (model X.prog X.w) X.A (f v u) Q X.xe s2):wpAny (model X.prog X.w) X.A (eval a X.env) (λv s₁=>wpAny (model X.prog X.w) X.A (eval b X.env) (λu s₂=>wpAny (model X.prog X.w) X.A (f v u) Q X.xe s₂) X.xe s₁) X.xe s:=by refine bL (ha pins s σ H _ I h) λv s1 g=>?_;obtain⟨x,e,i,l,q1⟩:=g;refine bL (hb pins s1 σ e _ i q1) λu s2 g=>?_;obtain⟨y,d,j,m,q2⟩:=g;exact k v u s2 x y d j l m q2
theorem aG{op:Operator}{r:R2}(ho:il X (binaryOp op) r)(ha:PE X a ta)(hb:PE X b tb):PE X (.BinOp a op b pos) (JO r ta tb):=by intro pins s σ H Q I h;exact wpAny_BinOp (PV ha hb I h λv u s2 x y d e f g q=>ho pins s2 σ d x y v u Q e f g q)
theorem iC{op:UnaryOp}{r:V->Hp->VK->Prop}(ho:Zi X (unaryOp op) r)(ha:PE X a ta):PE X (.UnaryOp op a pos) (tUn r ta):=by intro pins s σ H Q I h;exact UnaryOp_ (bL (ha pins s σ H _ I h) λv s1⟨x,d,e,f,q1⟩=>ho pins s1 σ d x v Q e f q1)
theorem XQ{f:Value->Value->Sem Value}{C:Int->Int->Prop}{g:Int->Int->Int}(rule:∀(i j:Int)(t u:Tok)(s:Shared)(Q:Value->Shared->Prop)(E:Value->Shared->Prop),C i j->Q (.int (g i j) s.toks) {s with toks:=s.toks+1}->wpAny (model X.prog X.w) X.A (f (.int i t) (.int j u)) Q E s):il X f (rI C λi j=> .int (g i j)):=by intro pins s σ H x y v u Q I d e h;obtain⟨i,j,rfl,rfl,hc,q⟩:=h;obtain⟨t,rfl⟩:=d;obtain⟨t',rfl⟩:=e;exact rule i j t t' s _ _ hc ⟨.int (g i j),H,I.tok _,⟨_,rfl⟩,q⟩
theorem SU{f:Value->Value->Sem Value}{g:Int->Int->Int}(rule:∀(i j:Int)(t u:Tok)(s:Shared)(Q:Value->Shared->Prop)(E:Value->Shared->Prop),Q (.int (g i j) s.toks) {s with toks:=s.toks+1}->wpAny (model X.prog X.w) X.A (f (.int i t) (.int j u)) Q E s):il X f (KU λi j=> .int (g i j)):=by intro pins s σ H x y v u Q I d e h;obtain⟨i,j,rfl,rfl,q⟩:=h;obtain⟨t,rfl⟩:=d;obtain⟨t',rfl⟩:=e;exact rule i j t t' s _ _ ⟨.int (g i j),H,I.tok _,⟨_,rfl⟩,q⟩
theorem JZ{f:Value->Value->Sem Value}{g:Int->Int->Bool}(rule:∀(i j:Int)(t u:Tok)(s:Shared)(Q:Value->Shared->Prop)(E:Value->Shared->Prop),Q (.bool (g i j)) s->wpAny (model X.prog X.w) X.A (f (.int i t) (.int j u)) Q E s):il X f (KU λi j=> .bl (g i j)):=by intro pins s σ H x y v u Q I d e h;obtain⟨i,j,rfl,rfl,q⟩:=h;obtain⟨t,rfl⟩:=d;obtain⟨t',rfl⟩:=e;exact rule i j t t' s _ _ ⟨.bl (g i j),H,I,rfl,q⟩
def Sw(i j:Int):Prop:=0<j/\j<1073741824
def Qp(i j:Int):Prop:=(-(2^64)<i/\i<2^64)\/(-(2^64)<j/\j<2^64)
theorem Qp.ok{i j:Int}(h:Qp i j):IntMulOk i j:=by
 rcases h with⟨h1,h2⟩|⟨h1,h2⟩;·exact .of_left (intBits_le_64 h1 h2)
 ·exact .of_right (intBits_le_64 h1 h2)
theorem cq:il X (binaryOp .Add) (KU λi j=> .int (i+j)):=SU λ_ _ _ _ _ _ _ q=>add_int q
theorem iR:il X (binaryOp .Sub) (KU λi j=> .int (i-j)):=SU λ_ _ _ _ _ _ _ q=>sub_int q
theorem ER:il X (binaryOp .Mult) (rI Qp λi j=> .int (i*j)):=XQ λ_ _ _ _ _ _ _ hc q=>mul_int q hc.ok
theorem dI:il X (binaryOp .FloorDiv) (rI Sw λi j=> .int (i/j)):=XQ λi j _ _ _ _ _ hc q=>by have h1:(0:Int)<j:=hc.1;have h2:j<1073741824:=hc.2;exact floordiv_int (by lia) (by rw[Int.fdiv_eq_ediv_of_nonneg i (by lia)];exact q) (.inl (PyProof.noPylong_small (by lia)))
theorem cQ:il X (binaryOp .Mod) (rI (λ_ j=>0<j) λi j=> .int (i%j)):=XQ λi j _ _ _ _ _ hc q=>by have h1:(0:Int)<j:=hc;exact mod_int' (by lia) (by rw[Int.fmod_eq_emod_of_nonneg i (by lia)];exact q)
theorem unI{f:Value->Sem Value}{g:Int->Int}(rule:∀(i:Int)(t:Tok)(s:Shared)(Q:Value->Shared->Prop)(E:Value->Shared->Prop),Q (.int (g i) s.toks) {s with toks:=s.toks+1}->wpAny (model X.prog X.w) X.A (f (.int i t)) Q E s):Zi X f (rU λi=> .int (g i)):=by intro pins s σ H x v Q I d h;obtain⟨i,rfl,q⟩:=h;obtain⟨t,rfl⟩:=d;exact rule i t s _ _ ⟨.int (g i),H,I.tok _,⟨_,rfl⟩,q⟩
theorem fJ:Zi X (unaryOp .USub) (rU λi=> .int (-i)):=unI λ_ _ _ _ _ q=>neg_int q
end
noncomputable def Pp:V->V->Bool| .bz, .bz=>true| .bz, .int _=>true| .int _, .bz=>true| .bz, .bl _=>true| .bl _, .bz=>true| .bz, .str _=>true| .str _, .bz=>true| .int _, .int _=>true| .bl _, .bl _=>true| .str _, .str _=>true| .DZ _, .DZ _=>true| .int _, .str _=>true| .str _, .int _=>true| .bl _, .str _=>true| .str _, .bl _=>true|_,_=>false
noncomputable def rEq:R2:=λx y H Q=>Pp x y=true/\Q (.bl (decide (x=y))) H
noncomputable def rNe:R2:=λx y H Q=>Pp x y=true/\Q (.bl (!decide (x=y))) H
theorem Ah{i j:Int}:decide (V.int i=V.int j)=(i==j):=by rw[Bool.eq_iff_iff];simp
theorem FN{i j:Bool}:decide (V.bl i=V.bl j)=(i==j):=by rw[Bool.eq_iff_iff];simp
theorem AS{i j:Str}:decide (V.str i=V.str j)=(i==j):=by rw[Bool.eq_iff_iff];simp
theorem AO{i j:Array UInt8}:decide (V.DZ i=V.DZ j)=(i.toList==j.toList):=by rw[Bool.eq_iff_iff];cases i;cases j;simp
section
variable{X:Cx}{a b c:Expr}{ta tb tc:TE}{pos:Pos}
theorem bj{pins:List (Addr×Obj)}{σ:St}{H:Hp}{s:Shared}{Q:VK}{k d:Bool}(I:Inv X pins σ H s)(q:Q (.bl k) H)(e:k=d):EP X pins σ Q (.bool d) s:=by subst e;exact⟨.bl k,H,I,rfl,q⟩
theorem bc:il X (compareOp .Eq) rEq:=by
 intro pins s σ H x y v u Q I f d h;obtain⟨e,q⟩:=h;cases x with
  |bz=>cases f;cases y with|bz=>cases d;exact PySem.EqNone.eq_none_none (bj I q (by simp))|bl j=>cases d;exact PySem.EqNone.eq_none_bool (bj I q (by simp))|int j=>obtain⟨t',rfl⟩:=d;exact PySem.EqNone.eq_none_int (bj I q (by simp))|str j=>obtain⟨t',rfl⟩:=d;exact PySem.EqNone.eq_none_str (bj I q (by simp))|_=>exact absurd (show false=true from e) dA
  |bl i=>cases f;cases y with|bz=>cases d;exact PySem.EqNone.eq_bool_none (bj I q (by simp))|bl j=>cases d;exact eq_bool (bj I q FN)|str j=>obtain⟨t',rfl⟩:=d;exact PySem.EqMixed.eq_bool_str (bj I q (by simp))|_=>exact absurd (show false=true from e) dA
  |int i=>obtain⟨t,rfl⟩:=f;cases y with|bz=>cases d;exact PySem.EqNone.eq_int_none (bj I q (by simp))|int j=>obtain⟨t',rfl⟩:=d;exact eq_int (bj I q Ah)|str j=>obtain⟨t',rfl⟩:=d;exact PySem.EqMixed.eq_int_str (bj I q (by simp))|_=>exact absurd (show false=true from e) dA
  |str i=>obtain⟨t,rfl⟩:=f;cases y with|bz=>cases d;exact PySem.EqNone.eq_str_none (bj I q (by simp))|bl j=>cases d;exact PySem.EqMixed.eq_str_bool (bj I q (by simp))|int j=>obtain⟨t',rfl⟩:=d;exact PySem.EqMixed.eq_str_int (bj I q (by simp))|str j=>obtain⟨t',rfl⟩:=d;exact eq_str (bj I q AS)|_=>exact absurd (show false=true from e) dA
  |DZ i=>obtain⟨t,rfl⟩:=f;cases y with|DZ j=>obtain⟨t',rfl⟩:=d;exact PySem.W.eq_bytes (bj I q AO)|_=>exact absurd (show false=true from e) dA
  |_=>cases y<;>exact absurd (show false=true from e) dA
theorem lR:il X (compareOp .NotEq) rNe:=by
 intro pins s σ H x y v u Q I f d h;obtain⟨e,q⟩:=h;cases x with
  |bz=>cases f;cases y with|bz=>cases d;exact PySem.EqNone.ne_none_none (bj I q (by simp))|bl j=>cases d;exact PySem.EqNone.ne_none_bool (bj I q (by simp))|int j=>obtain⟨t',rfl⟩:=d;exact PySem.EqNone.ne_none_int (bj I q (by simp))|str j=>obtain⟨t',rfl⟩:=d;exact PySem.EqNone.ne_none_str (bj I q (by simp))|_=>exact absurd (show false=true from e) dA
  |bl i=>cases f;cases y with|bz=>cases d;exact PySem.EqNone.ne_bool_none (bj I q (by simp))|bl j=>cases d;exact ne_bool (bj I q (congrArg not FN))|str j=>obtain⟨t',rfl⟩:=d;exact PySem.EqMixed.ne_bool_str (bj I q (by simp))|_=>exact absurd (show false=true from e) dA
  |int i=>obtain⟨t,rfl⟩:=f;cases y with|bz=>cases d;exact PySem.EqNone.ne_int_none (bj I q (by simp))|int j=>obtain⟨t',rfl⟩:=d;exact ne_int (bj I q (congrArg not Ah))|str j=>obtain⟨t',rfl⟩:=d;exact PySem.EqMixed.ne_int_str (bj I q (by simp))|_=>exact absurd (show false=true from e) dA
  |str i=>obtain⟨t,rfl⟩:=f;cases y with|bz=>cases d;exact PySem.EqNone.ne_str_none (bj I q (by simp))|bl j=>cases d;exact PySem.EqMixed.ne_str_bool (bj I q (by simp))|int j=>obtain⟨t',rfl⟩:=d;exact PySem.EqMixed.ne_str_int (bj I q (by simp))|str j=>obtain⟨t',rfl⟩:=d;exact ne_str (bj I q (congrArg not AS))|_=>exact absurd (show false=true from e) dA
  |DZ i=>obtain⟨t,rfl⟩:=f;cases y with|DZ j=>obtain⟨t',rfl⟩:=d;exact PySem.W.ne_bytes (bj I q (congrArg not AO))|_=>exact absurd (show false=true from e) dA
  |_=>cases y<;>exact absurd (show false=true from e) dA
theorem Ax:il X (compareOp .Lt) (KU λi j=> .bl (decide (i<j))):=JZ λ_ _ _ _ _ _ _ q=>lt_int q
theorem MT:il X (compareOp .LtE) (KU λi j=> .bl (decide (i<=j))):=JZ λ_ _ _ _ _ _ _ q=>le_int q
theorem Nb:il X (compareOp .Gt) (KU λi j=> .bl (decide (j<i))):=JZ λ_ _ _ _ _ _ _ q=>gt_int q
theorem xr:il X (compareOp .GtE) (KU λi j=> .bl (decide (j<=i))):=JZ λ_ _ _ _ _ _ _ q=>ge_int q
theorem kB:il X (compareOp .In) (λx y H Q=>∃i j,x= .str i/\y= .str j/\Q (.bl (!(Builtin.Str.occurrences j i 0 j.length 1).isEmpty)) H):=by intro pins s σ H x y v u Q I d e h;obtain⟨i,j,rfl,rfl,q⟩:=h;obtain⟨t,rfl⟩:=d;obtain⟨t',rfl⟩:=e;exact in_str (bj I q rfl)
theorem IA:il X (compareOp .IsNot) (λx y H Q=>y= .bz/\Q (.bl (!decide (x= .bz))) H):=by intro pins s σ H x y v u Q I d e h;obtain⟨rfl,q⟩:=h;cases e;refine isnot_none_gen (bj I q ?_);cases x<;>first|(cases d;rfl)|(obtain⟨t,rfl⟩:=d;rfl)
theorem ay(b:Expr){op:CmpOp}(h:op≠ .In:=by decide)(h2:op≠ .NotIn:=by decide):behindInMarks op b=false:=by
 have d:(op==CmpOp.In)=false:=by cases op<;>first|rfl|exact absurd rfl h
 have e:(op==CmpOp.NotIn)=false:=by cases op<;>first|rfl|exact absurd rfl h2
 cases b<;>simp[behindInMarks,d,e]
theorem gd{op:CmpOp}{r:R2}(ho:il X (compareOp op) r)(ha:PE X a ta)(hb:PE X b tb)(hm:behindInMarks op b=false):PE X (.Compare a [op] [b] pos) (JO r ta tb):=by intro pins s σ H Q I h;exact wpAny_Compare1 (PV ha hb I h λv u s2 x y d e f g q=>ho pins s2 σ d x y v u Q e f g q) hm
noncomputable def zT(t:TE):TT:=λσ H Q=>t σ H λx H'=>∃k,x= .bl k/\Q k H'
theorem av{op:CmpOp}{r:R2}(ho:il X (compareOp op) r)(ha:PE X a ta)(hb:PE X b tb)(hm:behindInMarks op b=false):PT X (.Compare a [op] [b] pos) (zT (JO r ta tb)):=by intro pins s σ H Q I h;refine wpAny_isTrue_Compare1 (bL (ha pins s σ H _ I h) λv s1⟨x,d,i,m,q1⟩=>bL (hb pins s1 σ d _ i q1) λu s2⟨y,f,j,n,q2⟩=>bL (ho pins s2 σ f x y v u _ j m n q2) λc p⟨z,g,l,o,k,e,q3⟩=>?_) hm;subst e;cases o;exact wpAny_truthy_bool ⟨g,l,q3⟩
noncomputable def O3(r h:R2)(ta tb tc:TE):TE:=λσ H Q=>ta σ H λx e=>tb σ e λy f=>r x y f λz d=>∃k,z= .bl k/\(if k=true then tc σ d λi g=>h y i g Q else Q (.bl false) d)
theorem Fm{op f:CmpOp}{r j:R2}(ho:il X (compareOp op) r)(D:il X (compareOp f) j)(ha:PE X a ta)(hb:PE X b tb)(hc:PE X c tc)(hm:lastMarks [op,f] [b,c]=false:=by with_unfolding_all rfl):PT X (.Compare a [op,f] [b,c] pos) (zT (O3 r j ta tb tc)):=by intro pins s σ H Q I h;refine isTrue_chain (bL (ha pins s σ H _ I h) λv s1⟨x,m,q,G,q1⟩=>test_link (bL (hb pins s1 σ m _ q q1) λu s2⟨y,n,t,l,q2⟩=>bL (ho pins s2 σ n x y v u _ t G l q2) λd M⟨z,g,i,J,k,e,q3⟩=>?_)) hm;subst e;cases J;refine wpAny_truthy_bool ?_;cases k with|false=>obtain⟨S,B,E⟩:=q3;cases B;exact ite_ff ⟨g,i,E⟩|true=>refine ite_tt (test_last (bL (hc pins M σ g _ i q3) λO N⟨P,o,w,K,q4⟩=>bL (D pins N σ o y P u O _ w l K q4) λd' T R=>?_));obtain⟨U,p,A,L,k2,C,F⟩:=R;subst C;cases L;exact wpAny_truthy_bool ⟨p,A,F⟩
theorem kj:(sizeLine:Nat)<2^63:=by rw[sizeLine_eq];decide
theorem c_:il X (binaryOp .Add) (λx y H Q=>∃i j,x= .str i/\y= .str j/\i.length+j.length<=sizeLine/\Q (.str (i++j)) H):=by intro pins s σ H x y v u Q I e f h;obtain⟨i,j,rfl,rfl,d,q⟩:=h;obtain⟨t,rfl⟩:=e;obtain⟨t',rfl⟩:=f;exact add_str (λt' tk=>⟨.str (i++j),H,I.tok _,⟨_,rfl⟩,q⟩) d
theorem vals1{x:V}{us:List Value}(r:Vals [x] us):∃u,us=[u]/\RelV x u:=by cases r with|cons d e=>cases e;exact⟨_,rfl,d⟩
theorem kr:eV X (.type "int") (λxs H Q=>(∃i,xs=[.int i]/\Q (.int i) H)\/∃k,xs=[.bl k]/\Q (.int (if k then 1 else 0)) H):=by
 intro pins s σ H xs us Q I r h;rcases h with⟨i,rfl,q⟩|⟨k,rfl,q⟩;·obtain⟨u,rfl,t,rfl⟩:=vals1 r;exact call_int_int ⟨.int i,H,I,⟨_,rfl⟩,q⟩
 ·obtain⟨u,rfl,d⟩:=vals1 r;cases d;exact call_int_bool ⟨.int (if k then 1 else 0),H,I.tok _,⟨_,rfl⟩,q⟩
end
structure N4(h:Heap)(x dx C:Addr)(mA:Str->Option Value):Prop where
 obj:h.get? x=some (PySem.W.instObj C dx)
 ns:h.Ns1 dx mA
 ne:dx≠x
theorem Dc{h:Heap}{dx:Addr}{mA:Str->Option Value}(n:h.Ns1 dx mA):∃od,h.get? dx=some od/\∀name,PySem.W.lookIn name od=some (mA name):=by
 obtain⟨o,es,ep,ho,hd,c,_,hm⟩:=n;refine⟨o,ho,λname=>?_⟩;have e:=hm name;unfold nsFind findBy at e;rw[<-Array.find?_toList]at e;unfold PySem.W.lookIn;rw[hd];dsimp only;split;·rename_i y q;rw[q]at e;exact congrArg some e
 ·rename_i q;rw[q]at e;have a:es.toList.any (·.refKey)=false:=by rw[List.any_eq_false];intro y f;obtain⟨z,t,d⟩:=c y (Array.mem_toList_iff.mp f);simp[DictEntry.refKey,d]
  have b:¬es.toList.any (·.refKey)=true:=by rw[a];exact dA
  rw[if_neg b];exact congrArg some e
theorem N4.look{h:Heap}{x dx C:Addr}{mA:Str->Option Value}(I:N4 h x dx C mA):∃od,PySem.W.InstAt h x (PySem.W.instObj C dx) C (some od)/\∀name,PySem.W.lookIn name od=some (mA name):=let⟨od,ho,hl⟩:=Dc I.ns;⟨od,⟨I.obj,rfl,rfl,ho⟩,hl⟩
section
variable{prog:Program}{w:World}{A:Around}{E:Value->Shared->Prop}{s:Shared}{K:PySem.W.Frag}{x dx C f:Addr}{mA:Str->Option Value}{name:Str}{v:Value}
end
section
variable{P:Program}{w:World}{H H':Hp}{h h':Heap}{a C dx:Addr}{fs fs':List (Str×V)}
theorem JM(bV:gJ P w H h)(e:H a=some (.ins C dx fs)):∃mA,N4 h a dx C mA/\(∀f,zG (fs.lookup f) (mA f))/\PySem.Within mA (fs.map (·.1))/\fs.length<=1000/\H dx=some (.own a):=by obtain⟨d,z,ne,ob,mA,n,r,q⟩:=(show bP P w H h a (.ins C dx fs)from bV a _ e);exact⟨mA,⟨ob,n,ne⟩,r,q,z,d⟩
end
structure Ys(K:PySem.W.Frag)(C:Addr):Prop where
 pg:PySem.W.plainGet K C Str.empty=true
 hd:PySem.W.hasDictIn K C=true
 po:PySem.W.plainOver K C=true
 sa:PySem.W.findIn K (.ref C) "__setattr__"=some (some (.builtin "object.__setattr__"))
theorem Ys.get{K:PySem.W.Frag}{C:Addr}(c:Ys K C)(f:Str):PySem.W.plainGet K C f=true:=c.pg
structure Con(K:PySem.W.Frag)(C:Addr)(f:Str)(v:V)(u:Value):Prop where
 at_:PySem.W.findIn K (.ref C) f=some (some u)
 rel:RelV v u
 get:PySem.W.specialIn K u "__get__"=some none
 cp:PySem.W.copiedNames.contains f=false
structure Meth(K:PySem.W.Frag)(C:Addr)(m:Str)(f:Addr):Prop where
 at_:PySem.W.findIn K (.ref C) m=some (some (.ref f))
 fn:PySem.W.isFn K (.ref f)=true
 kp:PySem.W.keepIn K (.ref f)=true
section
variable{X:Cx}{pins:List (Addr×Obj)}{σ:St}{H:Hp}{s:Shared}{a C dx:Addr}{fs:List (Str×V)}{f:Str}{v:V}{A:Around}{E:Value->Shared->Prop}
end
section
variable{X:Cx}{o e value:Expr}{f:Str}{pos pos' P0:Pos}{ta tv:TE}
end
section
variable{X:Cx}{pins:List (Addr×Obj)}{σ:St}{H:Hp}{s:Shared}{A:Around}{E:Value->Shared->Prop}{Q:Value->Shared->Prop}{c:Value}{b:Bool}
inductive iM(K:PySem.W.Frag)(H:Hp):V->Value->Prop where|bz:iM K H .bz (.type "NoneType")|bl(x:Bool):iM K H (.bl x) (.type "bool")|int(i:Int):iM K H (.int i) (.type "int")|str(x:Str):iM K H (.str x) (.type "str")|PD(x:UInt64):iM K H (.PD x) (.type "float")|lst{a:Addr}{xs:List V}(e:H a=some (.lst xs)):iM K H (.ref a) (.type "list")|yU{a:Addr}{o:Obj}{xs:List V}(e:H a=some (.yU o (.lst xs))):iM K H (.ref a) (.type "list")|tup{a:Addr}{xs:List V}(e:H a=some (.tup xs)):iM K H (.ref a) (.type "tuple")|dK{a:Addr}{kvs:List (Key×V)}(e:H a=some (.dK kvs)):iM K H (.ref a) (.type "dict")|dT{a:Addr}{kvs:List (List Key×V)}(e:H a=some (.dT kvs)):iM K H (.ref a) (.type "dict")|ins{a C dx:Addr}{fs:List (Str×V)}(e:H a=some (.ins C dx fs))(cl:Ys K C)(ha:PySem.W.findIn K (.ref C) "__class__"=some (some (.builtin "object.__class__")))(hn:PySem.W.specialIn K (.builtin "object.__class__") "__get__"=some (some (.builtin "getset_descriptor.__get__")))(htk:PySem.W.takesIn K (.builtin "object.__class__")=some true)(hm:PySem.W.mroIn K C (.type "object")=some true):iM K H (.ref a) (.ref C)
theorem DM{x:V}{u t:Value}(I:Inv X pins σ H s)(f:RelV x u)(ty:iM X.K H x t)(e:PySem.W.kitOne X.K t c=some b)(h:∀tk,Q (.bool b) {s with toks:=tk}):wpAny (model X.prog X.w) A (call (.builtin "isinstance") [u,c]) Q E s:=by cases ty with|bz=>cases(show u=Value.none from f);exact PySem.W.kia_one PySem.W.kitx_none I.lD True.intro e (λz=>nomatch z) h|bl y=>cases(show u=Value.bool y from f);exact PySem.W.kia_one PySem.W.kitx_bool I.lD True.intro e (λz=>nomatch z) h|int i=>obtain⟨t,q⟩:=(show∃t,u=Value.int i t from f);cases q;exact PySem.W.kia_one PySem.W.kitx_int I.lD True.intro e (λz=>nomatch z) h|str y=>obtain⟨t,q⟩:=(show∃t,u=Value.str y t from f);cases q;exact PySem.W.kia_one PySem.W.kitx_str I.lD True.intro e (λz=>nomatch z) h|PD y=>obtain⟨t,q⟩:=(show∃t,u=Value.float y t from f);cases q;exact PySem.W.kia_one PySem.W.kitx_float I.lD True.intro e (λz=>nomatch z) h|@lst a xs d=>cases(show u=Value.ref a from f);obtain⟨_,_,n,_,h1⟩:=(show bP X.prog X.w H s.heap a (.lst xs)from I.bV a _ d);exact PySem.W.kia_one PySem.W.kitx_list I.lD ⟨_,h1,rfl⟩ e (λz=>nomatch z) h|@yU a ob xs d=>cases(show u=Value.ref a from f);obtain⟨_,_,_,n,_,h1⟩:=(show bP X.prog X.w H s.heap a (.yU ob (.lst xs))from I.bV a _ d);exact PySem.W.kia_one PySem.W.kitx_list I.lD ⟨_,h1,rfl⟩ e (λz=>nomatch z) h|@tup a xs d=>cases(show u=Value.ref a from f);obtain⟨_,_,_,p⟩:=(show bP X.prog X.w H s.heap a (.tup xs)from I.bV a _ d);obtain⟨o,h1,h2,_⟩:=p;exact PySem.W.kia_one PySem.W.kitx_tuple I.lD ⟨o,h1,h2⟩ e (λz=>nomatch z) h|@dK a kvs d=>cases(show u=Value.ref a from f);obtain⟨_,_,vs,_,p⟩:=(show bP X.prog X.w H s.heap a (.dK kvs)from I.bV a _ d);obtain⟨o,es,ep,h1,h2,_⟩:=p;exact PySem.W.kia_one PySem.W.kitx_dict I.lD ⟨o,h1,h2.1⟩ e (λz=>nomatch z) h|@dT a kvs d=>cases(show u=Value.ref a from f);obtain⟨_,_,xs,_,o,es,ep,h1,h2,_⟩:=(show bP X.prog X.w H s.heap a (.dT kvs)from I.bV a _ d);exact PySem.W.kia_one PySem.W.kitx_dict I.lD ⟨o,h1,h2.1⟩ e (λz=>nomatch z) h|@ins a C dx fs d cl ha hn htk hm=>cases(show u=Value.ref a from f);obtain⟨mA,O,_⟩:=JM I.bV d;obtain⟨od,J,_⟩:=O.look;exact PySem.W.kia_one (PySem.W.kitx_own (cl.get _) cl.hd ha hn htk hm) I.lD J e (λz=>nomatch z) h
end
structure dQ(k:Nat)(A:Around):Prop where
 dp:A.depth+3*k+5<recursionLimit
 un:A.units+16*k+200<cLine
 hd:130<=k->A.handled=none
theorem dQ.mono{j k:Nat}{A:Around}(r:dQ k A)(h:j<=k):dQ j A:=⟨by have :=r.dp;lia,by have :=r.un;lia,λz=>r.hd (by lia)⟩
theorem dQ.deeper{k:Nat}{A:Around}(r:dQ (k+1) A)(env:Env):dQ k (A.deeper env):=⟨by have :=r.dp;show A.depth+1+3*k+5<_;lia,by have :=r.un;show A.units+3+16*k+200<_;lia,λz=>r.hd (by lia)⟩
theorem dQ.depth{k:Nat}{A:Around}(r:dQ k A):A.depth<recursionLimit:=by have :=r.dp;lia
theorem dQ.units{k:Nat}{A:Around}(r:dQ k A):A.units+64<cLine:=by have :=r.un;lia
noncomputable def sO:TA:=λ_ H Q=>Q [] H
noncomputable def d9(c:TE)(d:TA):TA:=λσ H Q=>c σ H λx a=>d σ a λxs b=>Q (x::xs) b
section
variable{X:Cx}{e:Expr}{es:List Expr}{te:TE}{t:TA}{pos:Pos}
theorem ag:PA X [] sO:=λ_ _ _ _ H Q I h=>Calls.spliced_nil ⟨[],H,I, .nil,h⟩
theorem aa(ha:PE X e te)(hr:PA X es t)(f:starEach (e::es) X.env=(false,eval e X.env)::starEach es X.env:=by rfl):PA X (e::es) (d9 te t):=by intro pos pins s σ H Q I h;rw[f];show wpAny _ _ (spliced ((false,eval e X.env)::backTo pos (starEach es X.env))) _ _ s;refine Calls.spliced_cons (bL (ha pins s σ H _ I h) λu s1 j=>?_);obtain⟨x,a,c,g,q1⟩:=j;exact bL (hr pos pins s1 σ a _ c q1) λus s2⟨xs,b,d,i,q2⟩=>⟨x::xs,b,d, .cons g i,q2⟩
noncomputable def EO(t:TA):TE:=λσ H Q=>t σ H λxs a=>xs.length<=sizeLine/\∀p,a p=none->Q (.ref p) (upd a p (.tup xs))
noncomputable def TC(t:TA):TE:=λσ H Q=>t σ H λxs a=>xs.length<=sizeLine/\∀p,a p=none->Q (.ref p) (upd a p (.lst xs))
theorem d3{f}(h:PA X es t):PE X (.Tuple es f pos) (EO t):=by intro pins s σ H Q I hq;refine wpAny_Tuple_spliced (bL (h pos pins s σ H _ I hq) λus s1⟨xs,a,c,r,z,q⟩=>⟨by rw[<-r.length];exact z,?_⟩);have d:a s1.heap.objs.size=none:=c.bV.fresh (zQ04 _);refine⟨.ref s1.heap.objs.size,upd a s1.heap.objs.size (.tup xs),c.laid (t':=s1.toks) (λb u e=>zQ01 _ e) (zQ04 _) ?_,rfl,q _ d⟩;exact⟨z,us,r,⟨_,zQ11 _ rfl,rfl,_,rfl⟩⟩
theorem bw(h:PA X es t):PE X (.List es pos) (TC t):=by intro pins s σ H Q I hq;refine wpAny_List_spliced (bL (h pos pins s σ H _ I hq) λus s1⟨xs,a,c,r,z,q⟩=>⟨by rw[<-r.length];exact z,?_⟩);have d:a s1.heap.objs.size=none:=c.bV.fresh (zQ04 _);refine⟨.ref s1.heap.objs.size,upd a s1.heap.objs.size (.lst xs),c.laid (t':=s1.toks) (λb u e=>zQ01 _ e) (zQ04 _) ?_,rfl,q _ d⟩;exact⟨z,us,0,r,zQ11 _ rfl⟩
end
noncomputable abbrev Sp:=List V->Hp->VK->XK->Prop
noncomputable abbrev wm:=Option Value->List Env->Hp->Shared->XK->Value->Shared->Prop
structure E7(P:Program)(w:World)(K:PySem.W.Frag)(mg:Str->Option Value)(base:Heap)(A:Around)(outer:List Env)(s:Shared)(H:Hp):Prop where
 frames:A.frames=some outer
 mod:Mod K mg base
 bs:∀b o,base.get? b=some o->s.heap.get? b=some o/\H b=none
 D3:base.objs.size<=s.heap.objs.size
 jd:s.heap.FunFrames base outer
 Ou:∀b∈iY outer,H b=none
 bV:gJ P w H s.heap
 bare:AllBare s.gens
 hdl:HB base A
noncomputable def CE(outer:List Env)(P:Program)(w:World)(H:Hp)(s:Shared)(Q:VK)(u:Value)(s':Shared):Prop:=∃v H',s'.os=s.os/\AllBare s'.gens/\Un (iY outer) [] H H' s.heap s'.heap/\gJ P w H' s'.heap/\RelV v u/\Q v H'
noncomputable def CR(CX:wm)(hh:Option Value)(outer:List Env)(P:Program)(w:World)(H:Hp)(s:Shared)(Q:VK)(E:XK)(r:Result)(s':Shared):Prop:=match r with| .ok (.ret u)=>CE outer P w H s Q u s'| .ok _=>False| .error e=>CX hh outer H s E e s'
structure sH(P:Program)(w:World)(K:PySem.W.Frag)(mg:Str->Option Value)(base:Heap)(CX:wm)(k:Nat)(f:Addr)(fd:FuncData)(ps:List Str)(sp:Sp):Prop where
 len:∀vs H Q E,sp vs H Q E->vs.length=ps.length
 run:∀(A:Around)(outer:List Env)(s:Shared)(H:Hp)(args:Args)(us:List Value)(vs:List V)(Q:VK)(E:XK),dQ k A->E7 P w K mg base A outer s H->BindsTo s fd args (ps.zip us)->Vals vs us->sp vs H Q E->codeAny (model P w) A (.call (.ref f) args) (CR CX A.handled outer P w H s Q E) s
section
variable{X:Cx}{pins:List (Addr×Obj)}{σ:St}{H:Hp}{s s':Shared}
theorem Inv.after{Q:VK}{u:Value}(I:Inv X pins σ H s)(h:CE X.stack X.prog X.w H s Q u s'):EP X pins σ Q u s':=by obtain⟨v,H',os,bare,un,bV,r,q⟩:=h;obtain⟨hh,g,d,t,os'⟩:=s';obtain rfl:os'=s.os:=os;exact⟨v,H',I.call (h':=hh) (g':=g) (d':=d) (t':=t) (ch:=[]) un bV bare (λb z=>absurd z (by simp)),r,q⟩
end
noncomputable def LX(sp:Sp)(b:List V)(E:XK)(t:TA):TE:=λσ H Q=>t σ H λvs a=>sp (vs++b) a Q E
noncomputable def Binds(K:PySem.W.Frag)(fd:FuncData)(ps:List Str)(ds:List Value):Prop:=∀(s:Shared)(us:List Value),K.In s.heap->(us++ds).length=ps.length->BindsTo s fd ⟨us,[]⟩ (ps.zip (us++ds))
theorem Binds.all{K:PySem.W.Frag}{fd:FuncData}{ps:List Str}(h:∀us:List Value,us.length=ps.length->bindArgs fd ⟨us,[]⟩=pure (ps.zip us)):Binds K fd ps []:=λs us _ hl=>by rw[gg]at hl⊢;exact .of_eq (h us hl)
def Passes(CX:wm)(X:Cx)(E:XK):Prop:=∀(pins:List (Addr×Obj))(σ:St)(H:Hp)(s:Shared)(e:Value)(s':Shared),Inv X pins σ H s->CX X.A.handled X.stack H s E e s'->X.xe e s'
section
variable{X:Cx}{CX:wm}{k:Nat}{f C:Addr}{fd:FuncData}{ps:List Str}{sp:Sp}{dvs:List V}{ds:List Value}{E:XK}{x m:Str}{p pos apos:Pos}{e o:Expr}{es:List Expr}{ta:TE}{t:TA}
end
noncomputable def PK(X:Cx)(a:List Keyword)(t:TA):Prop:=∀(b:Pos)(pins:List (Addr×Obj))(s:Shared)(σ:St)(H:Hp)(Q:List V->Hp->Prop),Inv X pins σ H s->t σ H Q->wpAny (model X.prog X.w) X.A (evalAll ((backToKw b (keywordEach a X.env)).map (·.2))) (AP X pins σ Q) X.xe s
section
variable{X:Cx}{CX:wm}{k:Nat}{f C:Addr}{fd:FuncData}{ps ks:List Str}{sp:Sp}{E:XK}{x m:Str}{p pos apos YZ:Pos}{e o:Expr}{es:List Expr}{R4:List Keyword}{te ta:TE}{t tk:TA}{nm:Option Str}
theorem NV:PK X [] sO:=λ_ _ _ _ H Q I h=>wpAny_evalAll_nil ⟨[],H,I, .nil,h⟩
theorem Jp(ha:PE X e te)(hr:PK X R4 t):PK X (⟨nm,e,YZ⟩::R4) (d9 te t):=by intro pos pins s σ H Q I h;show wpAny _ _ (evalAll ((do let v<-eval e X.env;standAt pos;pure v)::(backToKw pos (keywordEach R4 X.env)).map (·.2))) _ _ s;refine wpAny_evalAll_cons (zQ00 (bL (ha pins s σ H _ I h) λu s1⟨x,a,c,g,q1⟩=>zQ00 (wpAny_standAt (zQ02 ?_))));exact bL (hr pos pins s1 σ a _ c q1) λus s2⟨xs,b,d,i,q2⟩=>⟨x::xs,b,d, .cons g i,q2⟩
end
structure aT(N P:List Str)(sc:Scope):Prop where
 kind:sc.kind= .function
 co:sc.isCoroutine=false
 gen:sc.isGenerator=false
 nd:N.Nodup
 pre:N.take P.length=P
 par:∀x∈P,sc.names.lookup x=some .local\/sc.names.lookup x=some .cell
 Nt:∀y∈sc.names,y.2≠ .free
theorem tL{kindOf:Str->Option NameKind}{x:Str}:∀{binds:List (Str×Value)}{m:Str->Option Value},(∀v,(x,v)∉binds)->bindL kindOf binds m x=m x
 |[],_,_=>rfl
 |(n,v)::r,m,h=>by
  unfold bindL;rw[tL λw hw=>h w (dB _ hw)];split
  ·have :x≠n:=by rintro rfl;exact h v cT
   simp[this]
  ·rfl
theorem t_{kindOf:Str->Option NameKind}{x:Str}:∀{binds:List (Str×Value)}{m:Str->Option Value},(∀v,(x,v)∉binds)->bindC kindOf binds m x=m x
 |[],_,_=>rfl
 |(n,v)::r,m,h=>by
  unfold bindC;rw[t_ λw hw=>h w (dB _ hw)];split;·rfl
  ·have :x≠n:=by rintro rfl;exact h v cT
   simp[this]
theorem tY{kindOf:Str->Option NameKind}{x:Str}{v:Value}:∀{P:List Str}{vs:List Value}{i:Nat}{m:Str->Option Value},P.Nodup->P[i]?=some x->vs[i]?=some v->kindOf x=some .local->bindL kindOf (P.zip vs) m x=some v|[],_,_,_,_,h,_,_=>by simp at h|_::_,[],_,_,_,_,h,_=>by simp at h|p::P,w::vs,0,m,nd,h1,h2,a=>by simp at h1 h2;subst h1;subst h2;show bindL kindOf ((p,w)::P.zip vs) m p=_;unfold bindL;rw[tL λv hv=>(List.nodup_cons.mp nd).1 (List.of_mem_zip hv).1,if_pos a];simp|p::P,w::vs,i+1,m,nd,h1,h2,a=>by show bindL kindOf ((p,w)::P.zip vs) m x=_;unfold bindL;exact tY (i:=i) (List.nodup_cons.mp nd).2 (by simpa using h1) (by simpa using h2) a
theorem tZ{kindOf:Str->Option NameKind}{x:Str}{v:Value}:∀{P:List Str}{vs:List Value}{i:Nat}{m:Str->Option Value},P.Nodup->P[i]?=some x->vs[i]?=some v->kindOf x≠some .local->bindC kindOf (P.zip vs) m x=some v|[],_,_,_,_,h,_,_=>by simp at h|_::_,[],_,_,_,_,h,_=>by simp at h|p::P,w::vs,0,m,nd,h1,h2,a=>by simp at h1 h2;subst h1;subst h2;show bindC kindOf ((p,w)::P.zip vs) m p=_;unfold bindC;rw[t_ λv hv=>(List.nodup_cons.mp nd).1 (List.of_mem_zip hv).1,if_neg a];simp|p::P,w::vs,i+1,m,nd,h1,h2,a=>by show bindC kindOf ((p,w)::P.zip vs) m x=_;unfold bindC;exact tZ (i:=i) (List.nodup_cons.mp nd).2 (by simpa using h1) (by simpa using h2) a
noncomputable def start(N:List Str)(vs:List V):St:=vs.map some++List.replicate (N.length-vs.length) none
noncomputable def f9(CX:wm)(P:Program)(w:World)(K:PySem.W.Frag)(mg:Str->Option Value)(base:Heap)(N:List Str)(qual:Str)(scope:Scope)(f:Addr)(cd:Value)(A:Around)(outer:List Env)(s:Shared)(H:Hp)(E:XK):Cx where prog:=P;w:=w;K:=K;mg:=mg;base:=base;A:=A.deeper (envOfC qual scope s.heap.objs.size f cd);N:=N;bU:=s;H₀:=H;env:=envOfC qual scope s.heap.objs.size f cd;outer:=outer;stack:=envOfC qual scope s.heap.objs.size f cd::outer;ex:=[];calm:=true;fn:=λ_=>true;pn:=[];xe:=λe s'=>wpAny (model P w) (A.deeper (envOfC qual scope s.heap.objs.size f cd)) (leaving (envOfC qual scope s.heap.objs.size f cd) e) (λ_ a=>CX A.handled outer H s E e a) (λb a=>CX A.handled outer H s E b a) s'
theorem wR{sc:Scope}{n:Nat}{x:Str}(h:sc.names.lookup x=some .cell):∃c,(cellsFrom n sc.names []).lookup x=some c:=by have q:=PySem.W.cellsFrom_some sc.names n [] (.inl h);exact Option.isSome_iff_exists.mp q
theorem CZ{CX:wm}{P:Program}{w:World}{K:PySem.W.Frag}{mg:Str->Option Value}{base:Heap}{N ps:List Str}{qual:Str}{scope:Scope}{f:Addr}{cd:Value}{A:Around}{outer:List Env}{s s1:Shared}{H:Hp}{E:XK}{us:List Value}{vs:List V}(S:aT N ps scope)(d:E7 P w K mg base A outer s H)(hl:vs.length=ps.length)(r:Vals vs us)(x:InCallC s s.heap.objs.size (bindL (envOfC qual scope s.heap.objs.size f cd).kindOf (ps.zip us) λ_=>none) (cellsFrom (s.heap.objs.size+1) scope.names []) (bindC (envOfC qual scope s.heap.objs.size f cd).kindOf (ps.zip us) λ_=>none) s1):Inv (f9 CX P w K mg base N qual scope f cd A outer s H E) [] (start N vs) H s1:=by
 have C:ps.length<=N.length:=by have :=congrArg List.length S.pre;rw[iP]at this;lia
 obtain⟨h1,tk,rfl,m⟩:=x.done;have l:∀b:Addr,b∉(f9 CX P w K mg base N qual scope f cd A outer s H E).ex:=λb z=>absurd (show b∈([]:List Addr)from z) (by simp);refine⟨⟨d.mod,S.kind,rfl,rfl,zQ04 _,λy z c h1 h2=>?_,λy g=>?_,λy c _ h=>?_,λ_=>d.hdl.toP,Around.frames_deeper d.frames, .inr ⟨rfl,rfl⟩,λb z=>absurd z (l b),d.bs,d.D3,λb _ _=>l b,λb z=>absurd z (l b),d.jd,d.Ou⟩,rfl,d.bare,Un.kept m,⟨_,x.toInCall.ns,λi y v h1 h2 h3=>?_⟩,λy c h=>⟨_,x.cell y c h⟩,d.bV.fresh (zQ04 _),λy c h=>?_,λp j=>absurd (show p∈([]:List (Addr×Obj))from j) (by simp),d.bV.kept m,?_⟩;·exact name_of_addr x.apart (PySem.mem_of_lookup h1) (PySem.mem_of_lookup h2)
 ·have g:scope.names.lookup y=some .cell\/scope.names.lookup y=some .free:=g;rcases g with g|g;·exact wR g
  ·exact absurd rfl (S.Nt _ (PySem.mem_of_lookup g))
 ·exact Nat.le_of_lt (x.above y c (PySem.mem_of_lookup h))
 ·have hi:i<vs.length:=by
   unfold start at h2;by_cases hi:i<vs.length;·exact hi
   ·rw[List.getElem?_append_right (by simpa using hi)]at h2;rw[List.getElem?_replicate]at h2;split at h2<;>cases h2
  have ha:vs[i]?=some v:=by unfold start at h2;rw[List.getElem?_append_left (by simpa using hi),fi]at h2;cases e:vs[i]? with|none=>rw[e]at h2;cases h2|some a=>rw[e]at h2;cases h2;rfl
  obtain⟨u,o,B⟩:=r.get ha;have j:ps[i]?=some y:=by rw[<-S.pre,List.getElem?_take_of_lt (by lia)];exact h1
  have t:ps.Nodup:=by rw[<-S.pre];exact S.nd.sublist (List.take_sublist _ _)
  refine⟨u,B,?_⟩;rcases S.par y (rW j)with k|k;·exact .inl ⟨k,tY t j o k⟩
  ·obtain⟨c,e⟩:=wR (n:=s.heap.objs.size+1) k;refine .inr ⟨.inl k,c,e,?_⟩;have q:=x.cell y c e;rw[tZ t j o (by show scope.names.lookup y≠_;rw[k];decide)]at q;exact q
 ·exact d.bV.fresh (Nat.le_of_lt (x.above y c (PySem.mem_of_lookup h)))
 ·unfold start;show _=N.length;rw[cE,br,List.length_replicate];lia
theorem LP{CX:wm}{P:Program}{w:World}{K:PySem.W.Frag}{mg:Str->Option Value}{base:Heap}{k:Nat}{f:Addr}{name qual:Str}{params:Arguments}{body:List Stmt}{scope:Scope}{h kV doc pm dh ct oc:Value}{an od:Option Addr}{Gi:Array (Option Value)}{N ps:List Str}{sp:Sp}(B:K.lookup f=some ⟨oc,od, .func (PySem.W.fnOf name qual params body scope h kV doc pm an dh ct),Gi⟩)(l:PySem.W.codeIn K dh qual=true)(S:aT N ps scope)(len:∀vs H Q E,sp vs H Q E->vs.length=ps.length)(j:∀(A:Around)(outer:List Env)(s:Shared)(H:Hp)(vs:List V)(Q:VK)(E:XK),dQ k (A.deeper (envOfC qual scope s.heap.objs.size f dh))->sp vs H Q E->∃t,kq (f9 CX P w K mg base N qual scope f dh A outer s H E) body t/\t {nx:=λ_ H'=>Q .bz H',rt:=Q} (start N vs) H):sH P w K mg base CX (k+1) f (PySem.W.fnOf name qual params body scope h kV doc pm an dh ct) ps sp:=by
 refine⟨len,λA outer s H args us vs Q E hr c hb r i=>?_⟩;have hl:=len _ _ _ _ i;have KX:K.In s.heap:=c.mod.Ic.keeps λb o e=>(c.bs b o e).1;have z:s.heap.NoLimit:=c.mod.nolimit.keeps λb o e=>(c.bs b o e).1;have m:∀y∈ps.zip us,scope.names.lookup y.1=some .local\/(scope.names.lookup y.1=some .cell/\((cellsFrom (s.heap.objs.size+1) scope.names []).lookup y.1).isSome=true):=λ⟨n,v⟩p=>by
  rcases S.par n (List.of_mem_zip p).1 with q|q;·exact .inl q
  ·exact .inr ⟨q,PySem.W.cellsFrom_some _ _ _ (.inl q)⟩
 refine codeAny_call_function hr.depth (KX _ _ B) rfl S.co S.gen rfl (PySem.W.codeRec_of KX l) (hb _ _ _ _ ?_);refine wpAny_newFunctionEnv_cells S.kind m λenv he s1 x=>?_;subst he;refine⟨z.keeps x.toInCall.keep,codeAny_func ?_⟩;obtain⟨t,ht,hq⟩:=j A outer s H vs Q E (hr.deeper _) i;have I:Inv (f9 CX P w K mg base N qual scope f dh A outer s H E) [] (start N vs) H s1:=CZ S c hl r x;refine wpAny_mono (ht [] s1 (start N vs) H _ I hq) (λfl s' a=>?_) λe s' a=>a;have fin:∀{d:St}{H':Hp}{v:V}{u:Value},Inv (f9 CX P w K mg base N qual scope f dh A outer s H E) [] d H' s'->RelV v u->Q v H'->CE outer P w H s Q u s':=λ{d H' v u}J g q=>⟨v,H',J.os,J.bare,J.base,J.bV,g,q⟩;cases fl with|ret u=>obtain⟨v,d,H',J,g,q⟩:=a;exact fin J g q|next=>obtain⟨d,H',J,q⟩:=a;exact fin (v:=V.bz) (u:=Value.none) J rfl q|brk=>obtain⟨_,_,_,q⟩:=a;exact False.elim q|cont=>obtain⟨_,_,_,q⟩:=a;exact False.elim q
section
variable{X:Cx}{x:Str}{p pos:Pos}{e:Expr}{es:List Expr}{t:TA}{id T:String}{r:List V->Hp->VK->Prop}
noncomputable def tCB(r:List V->Hp->VK->Prop)(t:TA):TE:=λσ H Q=>t σ H λvs a=>r vs a Q
theorem aL(hc:eV X (.builtin id) r)(d:Gl X x)(hm:X.mg x=none)(hv:bootBuiltins x=some (.builtin id))(ha:PA X (e::es) t)(hn:x≠"__name__":=by decide)(c:(x==("__debug__":Str))=false:=by decide)(he:starEach (e::es) X.env=(false,eval e X.env)::starEach es X.env:=by rfl)(f:(backTo pos (starEach es X.env)).any (·.1)=false:=by rfl):PE X (.Call (.Name x p) (e::es) [] pos) (tCB r t):=by intro pins s σ H Q I h;refine wpAny_Call_Name_kw (gr I d hm hv ?_ hn c);exact PyProof.Rows.callWith_builtin1 (bL (ha pos pins s σ H _ I h) λus s1⟨vs,a,b,g,q1⟩=>hc pins s1 σ a vs us Q b g q1) he f
theorem cf(hc:eV X (.type T) r)(d:Gl X x)(hm:X.mg x=none)(hv:bootBuiltins x=some (.type T))(ha:PA X (e::es) t)(hn:x≠"__name__":=by decide)(c:(x==("__debug__":Str))=false:=by decide)(he:starEach (e::es) X.env=(false,eval e X.env)::starEach es X.env:=by rfl)(f:(backTo pos (starEach es X.env)).any (·.1)=false:=by rfl):PE X (.Call (.Name x p) (e::es) [] pos) (tCB r t):=by intro pins s σ H Q I h;refine wpAny_Call_Name_kw (gr I d hm hv ?_ hn c);exact PyProof.Rows.callWith_type1 (bL (ha pos pins s σ H _ I h) λus s1⟨vs,a,b,g,q1⟩=>hc pins s1 σ a vs us Q b g q1) he f
end
end L2
end
section
namespace HT
open PySem PyProof.Rows
section
open PySem.SeqAt
open PySem.AutoSeq1(wpAny_loadPart')
open PySem.MeetsSeq PySem.MeetsSeq2 PySem.MeetsSeq3
end
section
variable{prog:Program}{w:World}{A:Around}{E:Value->Shared->Prop}{s:Shared}
theorem I_{t b:Addr}{vs ws:List Value}{Q:Value->Shared->Prop}(ht:IsTup s.heap t vs.toArray)(hb:IsTup s.heap b ws.toArray)(hv:vs≠[])(h1:ws=[]->Q (.ref t) s)(h2:ws≠[]->Q (.ref s.heap.objs.size) {s with heap:=s.heap.push {cls:= .type "tuple",data:= .seq (vs++ws).toArray}})(hsz:vs.length+ws.length<=sizeLine):wpAny (model prog w) A (binaryOp .Add (.ref t) (.ref b)) Q E s:=by
 obtain⟨⟨cls,c,data,sl⟩,ho,hc,n,hd⟩:=id ht;obtain⟨⟨j,d,data2,i⟩,a,f,h,g⟩:=id hb;simp only at hc hd f g;subst hc hd f g;have e:vs.toArray++ws.toArray=(vs++ws).toArray:=by simp
 by_cases hw:ws=[];·exact concat_meets ⟨_,ho,rfl⟩ ⟨_,a,rfl⟩ noFill_tuple_add seq_tuple_add PySem.F.slot_tuple_add PySem.F.entry_tuple_add (PySem.F.args_tuple_add_2 _ _) (tuple_addW1 t b vs.toArray ws.toArray n h c d sl i (by simpa using hv) (by simp[hw])) ⟨ho,a,h1 hw⟩
 ·refine concat_meets ⟨_,ho,rfl⟩ ⟨_,a,rfl⟩ noFill_tuple_add seq_tuple_add PySem.F.slot_tuple_add PySem.F.entry_tuple_add (PySem.F.args_tuple_add_2 _ _) (tuple_addW2 t b vs.toArray ws.toArray n h c d sl i (by simpa using hv) (by simpa using hw) (by rw[cw,cw];exact hsz)) ⟨ho,a,?_⟩;rw[e];exact h2 hw
noncomputable def cy(n d:Nat):Option Int->Nat|none=>d|some v=>if v<0 then(v+(n:Int)).toNat else min v.toNat n
theorem wJ(n d:Nat):cy n d none=d:=rfl
theorem pA(n d k:Nat):cy n d (some (k:Int))=min k n:=by show(if(k:Int)<0 then((k:Int)+(n:Int)).toNat else min (k:Int).toNat n)=min k n;rw[if_neg (by lia),Int.toNat_natCast]
theorem ED(n d:Nat)(hd:d<=n)(o:Option Int):cy n d o<=n:=by
 cases o with
  |none=>exact hd
  |some v=>
   show(if v<0 then(v+(n:Int)).toNat else min v.toNat n)<=n;by_cases hv:v<0;·rw[if_pos hv];lia
   ·rw[if_neg hv];exact Nat.min_le_right _ _
theorem Cj(v:Int)(n d:Nat):(if v<0 then max (v+(n:Int)) 0 else min v (n:Int))=((cy n d (some v):Nat):Int):=by
 show(if v<0 then max (v+(n:Int)) 0 else min v (n:Int))=(((if v<0 then(v+(n:Int)).toNat else min v.toNat n):Nat):Int);by_cases hv:v<0;·simp only[if_pos hv];lia
 ·simp only[if_neg hv];lia
theorem zC(lo hi:Option Int)(n:Nat):Builtin.Slice.sliceAdjust lo hi 1 (n:Int)=(((cy n 0 lo:Nat):Int),((cy n n hi:Nat):Int)):=by
 have h1:¬((1:Int)<0):=by lia
 unfold Builtin.Slice.sliceAdjust;simp only[h1,if_false];refine Prod.ext ?_ ?_;·cases lo with|none=>rfl|some v=>exact Cj v n 0
 ·cases hi with|none=>rfl|some v=>exact Cj v n n
theorem zB(i j:Nat):Builtin.Slice.slicePlaces (i:Int) (j:Int) 1=j-i:=by
 unfold Builtin.Slice.slicePlaces;have h1:(1:Int)>0:=by lia
 simp only[h1,if_true,Int.ediv_one];split<;>lia
theorem rF{v:Value}{o:Option Int}{Q:Option Int->Shared->Prop}(p:IsPart v o)(h:Q o s):wpAny (model prog w) A (Builtin.Slice.slicePartIndex v) Q E s:=by cases p with|none=>exact slicePart_none h|int i t=>exact slicePart_int h
theorem fV{sl:Addr}{c d:Value}{lo hi:Option Int}{n:Nat}{Q:Int×Int×Nat->Shared->Prop}(e:s.heap.IsSliceOf sl c d .none)(f:IsPart c lo)(g:IsPart d hi)(h:Q (((cy n 0 lo:Nat):Int),1,cy n n hi-cy n 0 lo) s):wpAny (model prog w) A (Builtin.Slice.sliceApplied (.ref sl) (pure (n:Int))) Q E s:=by obtain⟨os,b,i,a⟩:=id e;unfold Builtin.Slice.sliceApplied Builtin.Slice.sliceFields;refine zQ00 (zQ00 (c9 b a (x:=c) rfl (zQ00 (c9 b a (x:=d) rfl (zQ00 (c9 b a (x:= .none) rfl (zQ02 ?_)))))));refine zQ00 (slicePart_none ?_);show wpAny _ _ (if((1:Int)==0)=true then _ else _) _ _ s;rw[if_neg (by decide)];refine zQ00 (rF f (zQ00 (rF g (zQ00 (zQ02 ?_)))));show wpAny _ _ (match Builtin.Slice.sliceAdjust lo hi 1 (n:Int)with|(lo,hi)=>pure (lo,(1:Int),Builtin.Slice.slicePlaces lo hi 1)) _ _ s;rw[zC lo hi n];show wpAny _ _ (pure (((cy n 0 lo:Nat):Int),(1:Int),Builtin.Slice.slicePlaces ((cy n 0 lo:Nat):Int) ((cy n n hi:Nat):Int) 1)) _ _ s;rw[zB];exact zQ02 h
theorem HF(xs:Array Value)(i k:Nat):((List.range k).filterMap λ(m:Nat)=>xs[((i:Int)+(m:Int)*1).toNat]?).toArray=((xs.toList.drop i).take k).toArray:=by
 have e:(λ(m:Nat)=>xs[((i:Int)+(m:Int)*1).toNat]?)=λm=>xs[i+m]?:=by
  funext m;have :((i:Int)+(m:Int)*1).toNat=i+m:=by lia
  rw[this]
 rw[e];have :=pick_run xs i k;rw[List.filterMap_map]at this;have a:((λx=>xs[x]?)∘λx=>i+x)=λm=>xs[i+m]?:=rfl;rw[a]at this;rw[this]
theorem jw{t sl:Addr}{items:Array Value}{c d:Value}{lo hi:Option Int}{Q:Value->Shared->Prop}(ht:IsTup s.heap t items)(b:s.heap.IsSliceOf sl c d .none)(j:IsPart c lo)(k:IsPart d hi)(hw:¬(cy items.size 0 lo=0/\cy items.size items.size hi=items.size))(h:Q (.ref s.heap.objs.size) {s with heap:=s.heap.push {cls:= .type "tuple",data:= .seq ((items.toList.drop (cy items.size 0 lo)).take (cy items.size items.size hi-cy items.size 0 lo)).toArray}})(hsz:items.size<=sizeLine):wpAny (model prog w) A (getItem (.ref t) (.ref sl)) Q E s:=by
 have a:sizeOk (.seq ((items.toList.drop (cy items.size 0 lo)).take (cy items.size items.size hi-cy items.size 0 lo)).toArray):=by show((items.toList.drop (cy items.size 0 lo)).take (cy items.size items.size hi-cy items.size 0 lo)).toArray.size<=sizeLine;rw[cw,iP,ko,Array.length_toList];lia
 have hj:cy items.size items.size hi<=items.size:=ED _ _ (zQ04 _) hi;obtain⟨os,i,f,l⟩:=id b;have e:s.TypeIs (.ref sl) "slice":=⟨os,i,f⟩;unfold getItem;try with_reducible refine eN ?_
 first|refine zQ00 (zQ02 ?_)|skip
 refine zQ00 (wpAny_sequenceKey ht.typeIs (by decide) ?_);refine zQ00 (wpAny_callSpecial?_slot (name:=Str.ofString "__getitem__") ht.typeIs PyProof.Rows.slot_tuple_getitem (gj PyProof.Rows.slot_tuple_getitem ht.typeIs entry_tuple_getitem ?_ (args_tuple_getitem _ _)));show wpAny _ _ (Builtin.Tuple.tupleItemsOf (.ref t)>>=_) _ _ s;refine zQ00 (tupleItemsOf_ ht ?_);refine zQ00 (wpAny_typeOf e ?_);rw[if_pos (by decide)];refine zQ00 (fV b j k ?_);have g:¬((((cy items.size 0 lo:Nat):Int)==0&&(1:Int)==1&&(cy items.size items.size hi-cy items.size 0 lo)==items.size)=true):=by intro q;rw[bE,bE]at q;have q1:((cy items.size 0 lo:Nat):Int)=0:=eq_of_beq q.1.1;have q2:cy items.size items.size hi-cy items.size 0 lo=items.size:=eq_of_beq q.2;exact hw ⟨by lia,by lia⟩
 show wpAny _ _ (if(((cy items.size 0 lo:Nat):Int)==0&&(1:Int)==1&&(cy items.size items.size hi-cy items.size 0 lo)==items.size)=true then _ else _) _ _ s;rw[if_neg g,HF];first|exact zQ00 (m:=Builtin.Tuple.tupleExact _) (iW (zQ02 ⟨_,rfl,zQ02 h⟩) a)|exact zQ00 (m:=Builtin.Tuple.tupleExact _) (iW (zQ00 (zQ02 (zQ02 ⟨_,rfl,zQ02 h⟩))) a)|exact zQ00 (zQ00 (m:=Builtin.Tuple.tupleExact _) (iW (zQ02 (zQ02 ⟨_,rfl,zQ02 h⟩)) a))|exact zQ00 (zQ00 (m:=Builtin.Tuple.tupleExact _) (iW (zQ02 ⟨_,rfl,zQ02 h⟩) a))
end
end HT
end
section
namespace L2
open PySem PySem.Spec PyProof.Rows
noncomputable abbrev TO:=St->Hp->(Option Int->Hp->Prop)->Prop
noncomputable def PO(X:Cx)(e:Option Expr)(t:TO):Prop:=∀(pins:List (Addr×Obj))(s:Shared)(σ:St)(H:Hp)(Q:Option Int->Hp->Prop),Inv X pins σ H s->t σ H Q->wpAny (model X.prog X.w) X.A (evalPart e X.env) (λu s'=>∃o H',Inv X pins σ H' s'/\IsPart u o/\Q o H') X.xe s
noncomputable def J8:TO:=λ_ H Q=>Q none H
noncomputable def SI(t:TE):TO:=λσ H Q=>t σ H λx a=>∃i,x= .int i/\Q (some i) a
section
variable{X:Cx}{e:Expr}{te:TE}{lo hi:Option Expr}{tl th:TO}{pos p2:Pos}
theorem ix:PO X none J8:=by intro pins s σ H Q I h;rw[evalPart_none];exact zQ02 ⟨none,H,I, .none,h⟩
theorem du(h:PE X e te):PO X (some e) (SI te):=by intro pins s σ H Q I hw;rw[evalPart_some];refine bL (h pins s σ H _ I hw) λu s1 d=>?_;obtain⟨x,a,b,c,q1⟩:=d;obtain⟨i,rfl,q⟩:=q1;obtain⟨t,rfl⟩:=c;exact⟨some i,a,b, .int i t,q⟩
noncomputable def V6(X:Cx)(r:V->Option Int->Option Int->Hp->VK->Prop):Prop:=∀(pins:List (Addr×Obj))(s:Shared)(σ:St)(H:Hp)(x:V)(v a b:Value)(lo hi:Option Int)(sl:Addr)(Q:VK),Inv X pins σ H s->RelV x v->s.heap.IsSliceOf sl a b .none->IsPart a lo->IsPart b hi->r x lo hi H Q->∃T id,typeLookup (.type T) "__getitem__"=pure (some (.builtin id))/\s.TypeIs v T/\wpAny (model X.prog X.w) X.A (getItem v (.ref sl)) (EP X pins σ Q) X.xe s
noncomputable def tSl(r:V->Option Int->Option Int->Hp->VK->Prop)(te:TE)(tl th:TO):TE:=λσ H Q=>te σ H λx a=>tl σ a λl b=>th σ b λu c=>r x l u c Q
theorem eR{r:V->Option Int->Option Int->Hp->VK->Prop}(hr:V6 X r)(he:PE X e te)(hl:PO X lo tl)(t:PO X hi th):PE X (.Subscript e (.Slice lo hi none p2) pos) (tSl r te tl th):=by intro pins s σ H Q I h;refine Subscript_ (bL (he pins s σ H _ I h) λv s1 f=>?_);obtain⟨x,i,k,z,q1⟩:=f;refine wpAny_Slice (bL (hl pins s1 σ i _ k q1) λc s2⟨l,j,m,w,q2⟩=>bL (t pins s2 σ j _ m q2) λd a f=>?_);obtain⟨u,g,n,y,q3⟩:=f;rw[evalPart_none];refine zQ02 ?_;have o:Inv X pins σ g {a with heap:=a.heap.push {cls:= .type "slice",data:= .fields #[c,d, .none]}}:=n.kept (t':=a.toks) λb ob q=>zQ01 _ q;obtain⟨T,id,hT,ht,p⟩:=hr pins {a with heap:=a.heap.push {cls:= .type "slice",data:= .fields #[c,d, .none]}} σ g x v c d l u a.heap.objs.size Q o z (Heap.IsSliceOf.new ..) w y q3;show wpAny (model X.prog X.w) X.A (subscriptTail e (.Slice lo hi none p2) v (.ref a.heap.objs.size)) (EP X pins σ Q) X.xe {a with heap:=a.heap.push {cls:= .type "slice",data:= .fields #[c,d, .none]}};exact tail_any (ops:=[.ref a.heap.objs.size,v]) ht hT p (by with_unfolding_all rfl)
noncomputable def hU(xs:List V)(lo hi:Option Int):List V:=(xs.drop (HT.cy xs.length 0 lo)).take (HT.cy xs.length xs.length hi-HT.cy xs.length 0 lo)
theorem kP(xs:List V)(lo hi:Option Int):(hU xs lo hi).length<=xs.length:=by unfold hU;rw[iP,ko];lia
noncomputable def YC(K:PySem.W.Frag):V->Option Int->Option Int->Hp->VK->Prop:=λx lo hi H Q=>∃a xs,x= .ref a/\cN K H a xs/\¬(HT.cy xs.length 0 lo=0/\HT.cy xs.length xs.length hi=xs.length)/\∀p,H p=none->Q (.ref p) (upd H p (.tup (hU xs lo hi)))
theorem PZ:V6 X (YC X.K):=by
 intro pins s σ H x v l m lo hi sl Q I k d i j h;obtain⟨a,xs,rfl,f,hw,q⟩:=h;cases k;obtain⟨g,r,ht,c⟩:=I.tuple f;have hlen:g.toArray.size=xs.length:=by rw[cw];exact r.length.symm
 refine⟨"tuple",_,PyProof.Rows.slot_tuple_getitem.lookup,ht.typeIs,?_⟩;refine HT.jw ht d i j (by rw[hlen];exact hw) ?_ (by rw[hlen];exact c);rw[hlen];refine⟨.ref s.heap.objs.size,_,I.laid (t':=s.toks) (o:= .tup (hU xs lo hi)) (λb ob q=>zQ01 _ q) (zQ04 _) ?_,rfl,q _ (I.bV.fresh (zQ04 _))⟩;exact⟨cB (kP xs lo hi) c,_,(r.drop (HT.cy xs.length 0 lo)).take (HT.cy xs.length xs.length hi-HT.cy xs.length 0 lo),IsTup.new _ _⟩
noncomputable def Ry(K:PySem.W.Frag):R2:=λx y H Q=>∃a b xs c,x= .ref a/\y= .ref b/\cN K H a xs/\cN K H b c/\xs≠[]/\xs.length+c.length<=sizeLine/\(c=[]->Q (.ref a) H)/\(c≠[]->∀p,H p=none->Q (.ref p) (upd H p (.tup (xs++c))))
theorem Vals.mC{xs:List V}{us:List Value}(r:Vals xs us):us=[]↔xs=[]:=by cases r with|nil=>simp|cons _ _=>simp
theorem Jx:il X (binaryOp .Add) (Ry X.K):=by intro pins s σ H x y v u Q I j k h;obtain⟨a,b,xs,l,rfl,rfl,ha,hb,g,f,q1,q2⟩:=h;cases j;cases k;obtain⟨m,d,i,_⟩:=I.tuple ha;obtain⟨n,c,p2,_⟩:=I.tuple hb;refine HT.I_ i p2 (λz=>g (d.mC.mp z)) (λz=>⟨.ref a,H,I,rfl,q1 (c.mC.mp z)⟩) (λz=>?_) (by rw[<-d.length,<-c.length];exact f);refine⟨.ref s.heap.objs.size,_,I.laid (t':=s.toks) (o:= .tup (xs++l)) (λb ob q=>zQ01 _ q) (zQ04 _) ?_,rfl,q2 (λw=>z (c.mC.mpr w)) _ (I.bV.fresh (zQ04 _))⟩;exact⟨by rw[cE];exact f,_,d.append c,IsTup.new _ _⟩
end
noncomputable def Kl(n:Nat)(i:Int):Option Nat:=if 0<=i then(if i<n then some i.toNat else none)else if-(n:Int)<=i then some (i+n).toNat else none
noncomputable def gP{a:Type}(xs:List a)(i:Int):Option a:=(Kl xs.length i).bind λj=>xs[j]?
theorem AE{n:Nat}{i:Int}{j:Nat}(h:Kl n i=some j):seqIndex? i n=some j/\j<n/\-(n:Int)<=i/\i<n:=by
 unfold Kl at h;by_cases a:0<=i
 ·rw[if_pos a]at h;by_cases h1:i<n;·rw[if_pos h1]at h;have e:i.toNat=j:=Option.some.inj h;exact⟨by rw[seqIndex_of a h1,e],by lia,by lia,h1⟩
  ·rw[if_neg h1]at h;cases h
 ·rw[if_neg a]at h;by_cases h1:-(n:Int)<=i;·rw[if_pos h1]at h;have e:(i+n).toNat=j:=Option.some.inj h;exact⟨by rw[seqIndex_neg (by lia) h1,e],by lia,h1,by lia⟩
  ·rw[if_neg h1]at h;cases h
theorem ux{a:Type}{xs:List a}{i:Int}{v:a}(h:gP xs i=some v):∃j,seqIndex? i xs.length=some j/\xs[j]?=some v/\j<xs.length/\-(xs.length:Int)<=i/\i<xs.length:=by unfold gP at h;cases e:Kl xs.length i with|none=>rw[e]at h;cases h|some j=>rw[e]at h;obtain⟨h1,h2,h3,h4⟩:=AE e;exact⟨j,h1,h,h2,h3,h4⟩
theorem aF{a:Type}{xs:List a}{j:Nat}{v:a}(h:xs[j]?=some v):gP xs (j:Int)=some v:=by
 have hj:j<xs.length:=(List.getElem?_eq_some_iff.mp h).1;have e:Kl xs.length (j:Int)=some j:=by unfold Kl;rw[if_pos (by lia),if_pos (by lia)];simp
 unfold gP;rw[e];exact h
theorem Fo{a:Type}(xs:List a)(v:a):gP (xs++[v]) (-1)=some v:=by
 have hl:(xs++[v]).length=xs.length+1:=by simp
 have e:Kl (xs++[v]).length (-1)=some xs.length:=by unfold Kl;rw[hl,if_neg (by decide),if_pos (by lia)];congr 1;lia
 unfold gP;rw[e];show(xs++[v])[xs.length]?=some v;simp
def IY(b:Expr):Prop:=∀o i,subscripted b false o i=operate [o,i] (getItem o i)
noncomputable def T4(X:Cx)(r:R2):Prop:=∀(value slice:Expr)(pins:List (Addr×Obj))(s:Shared)(σ:St)(H:Hp)(x y:V)(v u:Value)(Q:VK),Inv X pins σ H s->RelV x v->RelV y u->r x y H Q->subscripted slice false v u=operate [v,u] (getItem v u)->wpAny (model X.prog X.w) X.A (subscriptTail value slice v u) (EP X pins σ Q) X.xe s
noncomputable def Rg(X:Cx)(id:String)(r:V->List V->Hp->VK->Prop):Prop:=∀(pins:List (Addr×Obj))(s:Shared)(σ:St)(H:Hp)(x:V)(xs:List V)(v:Value)(us:List Value)(Q:VK),Inv X pins σ H s->RelV x v->Vals xs us->r x xs H Q->wpAny (model X.prog X.w) X.A (call (.builtin id) (v::us)) (EP X pins σ Q) X.xe s
section
variable{X:Cx}{a b:Expr}{ta tb:TE}{pos:Pos}
theorem aH{r:R2}(hr:T4 X r)(ha:PE X a ta)(hb:PE X b tb)(e:IY b):PE X (.Subscript a b pos) (JO r ta tb):=by intro pins s σ H Q I h;exact Subscript_ (PV ha hb I h λv u s2 x y c d f g q=>hr a b pins s2 σ c x y v u Q d f g q (e _ _))
noncomputable def Tg(K:PySem.W.Frag):R2:=λx y H Q=>∃p xs i v,x= .ref p/\y= .int i/\aZ K H p xs/\gP xs i=some v/\Q v H
noncomputable def Zf(K:PySem.W.Frag):R2:=λx y H Q=>∃p xs i v,x= .ref p/\y= .int i/\cN K H p xs/\gP xs i=some v/\Q v H
noncomputable def Yr:R2:=λx y H Q=>∃z i c,x= .str z/\y= .int i/\z.length<=sizeLine/\gP z.cps.toList i=some c/\Q (.str ⟨#[c]⟩) H
theorem bH:T4 X (Tg X.K):=by
 intro value slice pins s σ H x y v u Q I l m h f;obtain⟨p,xs,i,z,rfl,rfl,hq,he,q⟩:=h;cases l;obtain⟨t,rfl⟩:=m;obtain⟨g,r,c,n⟩:=I.list hq;obtain⟨j,h1,h2,h3,h4,h5⟩:=ux he;obtain⟨w,d,k⟩:=r.get h2;have hl:=r.length;have hn:=kj;have fin:EP X pins σ Q w s:=⟨z,H,I,k,q⟩;by_cases e:0<=i
 ·have hj:i.toNat=j:=by rw[seqIndex_of e h5]at h1;exact Option.some.inj h1
  exact item_listR c.isList e (by lia) (by rw[hj];simpa using d) fin f
 ·have hj:(i+(g.toArray.size:Int)).toNat=j:=by rw[seqIndex_neg (by lia) h4]at h1;rw[cw,<-hl];exact Option.some.inj h1
  exact subscriptTail_builtinR (x:=w) c.isList.typeIs slot_list_getitem.lookup (wpAny_getItem_list_neg (Q:=λr s'=>r=w/\EP X pins σ Q r s') c.isList (by lia) (by rw[cw]<;>lia) (by lia) (by rw[hj];simpa using d) ⟨rfl,fin⟩) f
theorem aM:T4 X (Zf X.K):=by intro value slice pins s σ H x y v u Q I g k h e;obtain⟨p,xs,i,z,rfl,rfl,hq,he,q⟩:=h;cases g;obtain⟨t,rfl⟩:=k;obtain⟨m,r,c,l⟩:=I.tuple hq;obtain⟨j,h1,h2,h3,h4,h5⟩:=ux he;obtain⟨w,d,f⟩:=r.get h2;have hl:=r.length;have hn:=kj;have fin:EP X pins σ Q w s:=⟨z,H,I,f,q⟩;exact subscriptTail_builtinR (x:=w) c.typeIs slot_tuple_getitem.lookup (getItem_tuple (j:=j) (Q:=λr s'=>r=w/\EP X pins σ Q r s') c (by lia) (by lia) (by rw[cw,<-hl];exact h1) (by simpa using d) ⟨rfl,fin⟩) e
theorem ug:T4 X Yr:=by
 intro value slice pins s σ H x y v u Q I g k h f;obtain⟨z,i,c,rfl,rfl,l,he,q⟩:=h;obtain⟨t,rfl⟩:=g;obtain⟨t',rfl⟩:=k;obtain⟨j,h1,h2,h3,h4,h5⟩:=ux he;have hl:z.cps.toList.length=z.length:=by simp[Str.length]
 rw[hl]at h1 h4 h5;have hn:=kj;exact tail_any (typeIs_str s z t) slot_str_getitem.lookup (getItem_str (c:=c) (by have d:decide (i< -(2^63:Int))=false:=decide_eq_false (by lia);have e:decide (i>=2^63)=false:=decide_eq_false (by lia);rw[d,e,Bool.or_false]) (by rw[h1];simpa using h2) ⟨.str ⟨#[c]⟩,H,I.tok _,⟨_,rfl⟩,q⟩) f
theorem zD(c:List Value)(n j:Nat)(u:Value):Obj.mapSeq (·.setIfInBounds j u) {cls:= .type "list",data:= .seq c.toArray n}={cls:= .type "list",data:= .seq (c.set j u).toArray n}:=by simp[Obj.mapSeq]
theorem Inv.lst{pins:List (Addr×Obj)}{σ:St}{H:Hp}{s:Shared}{p:Addr}{xs:List V}(I:Inv X pins σ H s)(h:H p=some (.lst xs)):∃(c:List Value)(n:Nat),Vals xs c/\s.heap.get? p=some {cls:= .type "list",data:= .seq c.toArray n}/\xs.length<=sizeLine:=by obtain⟨z,c,n,r,e⟩:=I.bV p _ h;exact⟨c,n,r,e,z⟩
theorem Inv.Pr{pins:List (Addr×Obj)}{σ:St}{H:Hp}{s:Shared}{p:Addr}{xs d:List V}{i its':List Value}{n c:Nat}{f:Obj->Obj}(I:Inv X pins σ H s)(h:H p=some (.lst xs))(ho:s.heap.get? p=some {cls:= .type "list",data:= .seq i.toArray n})(g:f {cls:= .type "list",data:= .seq i.toArray n}={cls:= .type "list",data:= .seq its'.toArray c})(r:Vals d its')(j:d.length<=sizeLine)(t:Nat):Inv X pins σ (upd H p (.lst d)) {s with heap:=s.heap.update p f,toks:=t}:=by
 have e:(s.heap.update p f).get? p=some {cls:= .type "list",data:= .seq its'.toArray c}:=by rw[mv f ho (by rw[g]<;>rfl),g]
 refine I.write (x:=p) (e:=p) (by rw[h];trivial) (.inl rfl) (λb u hb q=>(gF _ _ (Ne.symm hb)).trans q) ⟨_,e⟩ ?_;exact⟨j,its',c,r,e⟩
noncomputable def T7:V->V->V->Hp->(Hp->Prop)->Prop:=λo i v H Q=>∃p xs k j,o= .ref p/\i= .int k/\H p=some (.lst xs)/\Kl xs.length k=some j/\Q (upd H p (.lst (xs.set j v)))
theorem set_list:Rp X T7:=by
 intro pins s σ H o i v z y u Q I w m x h;obtain⟨p,xs,k,j,rfl,rfl,f,hj,q⟩:=h;cases w;obtain⟨t,rfl⟩:=m;obtain⟨g,n,r,ho,l⟩:=I.lst f;obtain⟨h1,h2,h3,h4⟩:=AE hj;have hl:=r.length;have hn:=kj;have d:Inv X pins σ (upd H p (.lst (xs.set j v))) {s with heap:=s.heap.update p (Obj.mapSeq (·.setIfInBounds j u))}:=I.Pr f ho (zD g n j u) (r.set x j) (by rw[List.length_set];exact l) s.toks;by_cases e:0<=k
 ·have c:k.toNat=j:=by rw[seqIndex_of e h4]at h1;exact Option.some.inj h1
  exact PySem.W.ki_setAt ho e (by lia) (by rw[cw,<-hl];exact h4) (by rw[c];exact⟨_,d,q⟩)
 ·have c:(k+(g.toArray.size:Int)).toNat=j:=by rw[seqIndex_neg (by lia) h3]at h1;rw[cw,<-hl];exact Option.some.inj h1
  exact PySem.W.ki_setBack ho (by lia) (by rw[cw,<-hl];exact h3) (by lia) (by rw[c];exact⟨_,d,q⟩)
theorem jb(lo hi:Option Int)(n:Nat):(sliceBounds lo hi none n).1=((HT.cy n 0 lo:Nat):Int)/\(sliceBounds lo hi none n).2.1=((HT.cy n n hi:Nat):Int)/\(sliceBounds lo hi none n).2.2=1:=by
 refine⟨?_,?_,rfl⟩
 ·cases lo with
   |none=>simp[sliceBounds,HT.cy]
   |some i=>
    simp only[sliceBounds,HT.cy,Option.getD_none,show(1:Int)>0 by decide,if_true];by_cases h:i<0;·simp only[h,if_true]<;>lia
    ·simp only[h,if_false]<;>lia
 ·cases hi with
   |none=>simp[sliceBounds,HT.cy]
   |some i=>
    simp only[sliceBounds,HT.cy,Option.getD_none,show(1:Int)>0 by decide,if_true];by_cases h:i<0;·simp only[h,if_true]<;>lia
    ·simp only[h,if_false]<;>lia
theorem sJ(c:List Value)(lo hi:Option Int):slicePick c.toArray lo hi none=((c.drop (HT.cy c.length 0 lo)).take (HT.cy c.length c.length hi-HT.cy c.length 0 lo)).toArray:=by obtain⟨h1,h2,h3⟩:=jb lo hi c.toArray.size;unfold slicePick;rw[h1,h2,h3];simp only[sliceRange_one,pick_run,cw]<;>rfl
noncomputable def Zz(K:PySem.W.Frag):V->Option Int->Option Int->Hp->VK->Prop:=λx lo hi H Q=>∃a xs,x= .ref a/\aZ K H a xs/\∀p,H p=none->Q (.ref p) (upd H p (.lst (hU xs lo hi)))
theorem ip:V6 X (Zz X.K):=by intro pins s σ H x v k l lo hi sl Q I i c f g h;obtain⟨a,xs,rfl,d,q⟩:=h;cases i;obtain⟨j,r,ht,e⟩:=I.list d;have hlen:=r.length;refine⟨"list",_,slot_list_getitem.lookup,ht.isList.typeIs,?_⟩;refine wpAny_getItem_list_slice ht.isList c f g .none (by simp) ?_ (by rw[cw]<;>lia);rw[sJ,<-hlen];refine⟨.ref s.heap.objs.size,_,I.laid (t':=s.toks) (o:= .lst (hU xs lo hi)) (λb ob q=>zQ01 _ q) (zQ04 _) ?_,rfl,q _ (I.bV.fresh (zQ04 _))⟩;exact⟨cB (kP xs lo hi) e,_,0,(r.drop (HT.cy xs.length 0 lo)).take (HT.cy xs.length xs.length hi-HT.cy xs.length 0 lo),zQ11 _ rfl⟩
noncomputable def gD:V->Bool| .bz=>true| .bl _=>true| .int _=>true| .str _=>true|_=>false
noncomputable def EE:V->V->Bool| .bz, .bz=>true| .bl a, .bl b=>a==b| .bl a, .int b=>(if a then 1 else 0)==b| .int a, .bl b=>a==(if b then 1 else 0)| .int a, .int b=>a==b| .str a, .str b=>a==b|_,_=>false
theorem Hq{A:Around}{s:Shared}{y x:V}{u v:Value}(e:RelV y u)(c:RelV x v)(f:gD y=true)(d:gD x=true):SeqAt.EqAt A s u v (EE y x):=by
 cases y with
  |bz=>cases e;cases x with|bz=>cases c;exact SeqAt.EqAt.same _|bl b=>cases c;exact SeqAt.EqAt.none_bool b|int b=>obtain⟨t,rfl⟩:=c;exact SeqAt.EqAt.none_int b t|str b=>obtain⟨t,rfl⟩:=c;exact SeqAt.EqAt.none_str b t|_=>exact absurd (show false=true from d) dA
  |bl a=>cases e;cases x with|bz=>cases c;exact SeqAt.EqAt.bool_none a|bl b=>cases c;exact SeqAt.EqAt.bool_bool a b|int b=>obtain⟨t,rfl⟩:=c;exact SeqAt.EqAt.bool_int a b t|str b=>obtain⟨t,rfl⟩:=c;exact SeqAt.EqAt.bool_str a b t|_=>exact absurd (show false=true from d) dA
  |int a=>obtain⟨t',rfl⟩:=e;cases x with|bz=>cases c;exact SeqAt.EqAt.int_none a t'|bl b=>cases c;exact SeqAt.EqAt.int_bool a t' b|int b=>obtain⟨t,rfl⟩:=c;exact SeqAt.EqAt.int_int a t' b t|str b=>obtain⟨t,rfl⟩:=c;exact SeqAt.EqAt.int_str a t' b t|_=>exact absurd (show false=true from d) dA
  |str a=>obtain⟨t',rfl⟩:=e;cases x with|bz=>cases c;exact SeqAt.EqAt.str_none a t'|bl b=>cases c;exact SeqAt.EqAt.str_bool a t' b|int b=>obtain⟨t,rfl⟩:=c;exact SeqAt.EqAt.str_int a t' b t|str b=>obtain⟨t,rfl⟩:=c;exact SeqAt.EqAt.str_str a t' b t|_=>exact absurd (show false=true from d) dA
  |_=>exact absurd (show false=true from f) dA
noncomputable def IW(x:V)(u:Value):Bool:=match u with| .none=>EE .bz x| .bool b=>EE (.bl b) x| .int i _=>EE (.int i) x| .str z _=>EE (.str z) x|_=>false
theorem EH{x y:V}{u:Value}(r:RelV y u)(f:gD y=true):IW x u=EE y x:=by cases y with|bz=>cases r;rfl|bl b=>cases r;rfl|int i=>obtain⟨t,rfl⟩:=r;rfl|str z=>obtain⟨t,rfl⟩:=r;rfl|_=>exact absurd (show false=true from f) dA
theorem vM{x:V}:∀{xs:List V}{us:List Value},Vals xs us->xs.all gD=true->us.any (IW x)=xs.any λy=>EE y x|_,_, .nil,_=>rfl|y::xs,u::us, .cons r t,f=>by rw[List.all_cons,bE]at f;rw[List.any_cons,List.any_cons,EH r f.1,vM t f.2]
theorem rY{A:Around}{s:Shared}{x:V}{v:Value}(e:RelV x v)(d:gD x=true):∀{xs:List V}{us:List Value},Vals xs us->xs.all gD=true->∀u∈us,SeqAt.EqAt A s u v (IW x u)
 |_,_, .nil,_=>λu c=>by cases c
 |y::xs,u::us, .cons r t,f=>λg c=>by
  rw[List.all_cons,bE]at f;rcases List.mem_cons.mp c with rfl|c;·rw[EH r f.1];exact Hq r e f.1 d
  ·exact rY e d t f.2 g c
noncomputable def Ja(x:V)(xs:List V):Bool:=xs.any λy=>EE y x
noncomputable def rIn(K:PySem.W.Frag)(neg:Bool):R2:=λx y H Q=>∃p xs,y= .ref p/\(aZ K H p xs\/cN K H p xs)/\gD x=true/\xs.all gD=true/\Q (.bl (if neg then !Ja x xs else Ja x xs)) H
theorem eh:il X (compareOp .NotIn) (rIn X.K true):=by
 intro pins s σ H x y v u Q I f i h;obtain⟨p,xs,rfl,hq,e,fs,q⟩:=h;cases i;rcases hq with hq|hq;·obtain⟨c,r,d,g⟩:=I.list hq;refine SeqAt.notIn_listAt (IW x) d.isList (λw hw=>rY f e r fs w (by simpa using hw)) ⟨.bl _,H,I,rfl,?_⟩;rw[show c.toArray.any (IW x)=c.any (IW x)by simp,vM r fs];exact q
 ·obtain⟨c,r,d,g⟩:=I.tuple hq;refine SeqAt.notIn_tupleAt (IW x) d (λw hw=>rY f e r fs w (by simpa using hw)) ⟨.bl _,H,I,rfl,?_⟩;rw[show c.toArray.any (IW x)=c.any (IW x)by simp,vM r fs];exact q
theorem aV:eV X (.builtin "len") (λxs H Q=>∃p c,xs=[.ref p]/\(aZ X.K H p c\/cN X.K H p c)/\Q (.int c.length) H):=by
 intro pins s σ H xs us Q I r h;obtain⟨p,c,rfl,hq,q⟩:=h;obtain⟨u,rfl,i⟩:=vals1 r;cases i;have hn:=kj;rcases hq with hq|hq;·obtain⟨g,e,d,f⟩:=I.list hq;have hlen:=e.length;exact Calls.call_len_list d.isList (by simp only[cw]<;>lia) ⟨.int c.length,H,I.tok _,⟨s.toks+1,by rw[cw,hlen]⟩,q⟩
 ·obtain⟨g,e,d,f⟩:=I.tuple hq;have hlen:=e.length;exact len_tuple d (by simp only[cw]<;>lia) ⟨.int c.length,H,I.tok _,⟨s.toks+1,by rw[cw,hlen]⟩,q⟩
theorem eE:eV X (.builtin "len") (λxs H Q=>∃z,xs=[.str z]/\z.length<=sizeLine/\Q (.int z.length) H):=by intro pins s σ H xs us Q I r h;obtain⟨z,rfl,c,q⟩:=h;obtain⟨u,rfl,t,rfl⟩:=vals1 r;have hn:=kj;exact len_str (by lia) ⟨.int z.length,H,I.tok _,⟨_,rfl⟩,q⟩
theorem dk:eV X (.type "list") (λxs H Q=>∃p g,xs=[.ref p]/\(aZ X.K H p g\/cN X.K H p g)/\∀l,H l=none->Q (.ref l) (upd H l (.lst g))):=by
 intro pins s σ H xs us Q I r h;obtain⟨p,g,rfl,hq,q⟩:=h;obtain⟨u,rfl,k⟩:=vals1 r;cases k;have fin:∀(c:List Value),Vals g c->g.length<=sizeLine->∀(h':Heap)(d:Nat),(∀b o',s.heap.get? b=some o'->h'.get? b=some o')->h'.get? s.heap.objs.size=some {cls:= .type "list",dict:=none,data:= .seq c.toArray d,slots:=#[]}->EP X pins σ Q (.ref s.heap.objs.size) {s with heap:=h'}:=λc f i h' d kp e=>⟨.ref s.heap.objs.size,_,I.laid (t':=s.toks) kp (zQ04 _) (show bP X.prog X.w _ h' _ (.lst g)from⟨i,c,d,f,e⟩),rfl,q _ (I.bV.fresh (zQ04 _))⟩;rcases hq with hq|hq;·obtain⟨c,f,j,i⟩:=I.list hq;have hlen:=f.length;obtain⟨o,ho,hc,n,hd⟩:=j.isList;exact call_list_seq p (.inl rfl) ho hc hd (λh' d kp e=>fin c f i h' d kp e) (by simp only[cw]<;>lia)
 ·obtain⟨c,f,j,i⟩:=I.tuple hq;have hlen:=f.length;obtain⟨o,ho,hc,n,hd⟩:=j;exact call_list_seq p (.inr rfl) ho hc hd (λh' d kp e=>fin c f i h' d kp e) (by simp only[cw]<;>lia)
theorem sm:eV X (.type "tuple") (λxs H Q=>∃p c,xs=[.ref p]/\((aZ X.K H p c/\∀l,H l=none->Q (.ref l) (upd H l (.tup c)))\/(cN X.K H p c/\Q (.ref p) H))):=by
 intro pins s σ H xs us Q I r h;obtain⟨p,c,rfl,h⟩:=h;obtain⟨u,rfl,m⟩:=vals1 r;cases m;rcases h with⟨hq,q⟩|⟨hq,q⟩;·obtain⟨d,g,f,j⟩:=I.list hq;have hlen:=g.length;refine call_tuple_list f.isList (λh' kp=>?_) (by simp only[cw]<;>lia);have i:Inv X pins σ H {s with heap:=h'}:=I.kept (t':=s.toks) kp;have k:Inv X pins σ (upd H h'.objs.size (.tup c)) {s with heap:=h'.push {cls:= .type "tuple",data:= .seq d.toArray}}:=i.laid (t':=s.toks) (λb o e=>zQ01 _ e) (zQ04 _) (show bP X.prog X.w _ _ _ (.tup c)from⟨j,d,g,IsTup.new _ _⟩);exact⟨.ref h'.objs.size,_,k,rfl,q _ (i.bV.fresh (zQ04 _))⟩
 ·obtain⟨d,g,f,j⟩:=I.tuple hq;exact call_tuple_same f ⟨.ref p,H,I,rfl,q⟩
def Y9(K:PySem.W.Frag)(T:String)(x:V)(H:Hp):Prop:=match x with| .str _=>T="str"| .int _=>T="int"| .ref p=>(T="list"/\∃xs,aZ K H p xs)\/(T="tuple"/\∃o,K.lookup p=some o/\o.cls= .type "tuple"/\o.dict=none)\/(T="dict"/\((∃kvs,H p=some (.dK kvs))\/∃kvs,H p=some (.dT kvs)))\/(T="set"/\∃S n,H p=some (.set S n))|_=>False
theorem En{pins:List (Addr×Obj)}{σ:St}{H:Hp}{s:Shared}{T:String}{x:V}{v:Value}(I:Inv X pins σ H s)(r:RelV x v)(ty:Y9 X.K T x H):s.TypeIs v T/\∀a,v= .ref a->∃ob,s.heap.get? a=some ob/\ob.dict=none:=by
 cases x with
  |str z=>obtain⟨t,rfl⟩:=r;cases(show T="str"from ty);exact⟨typeIs_str s z t,λ_ e=>nomatch e⟩
  |int i=>obtain⟨t,rfl⟩:=r;cases(show T="int"from ty);exact⟨typeIs_int s i t,λ_ e=>nomatch e⟩
  |ref p=>
   cases r;rcases ty with⟨rfl,xs,hq⟩|⟨rfl,o,d,hc,hd⟩|⟨rfl,d⟩|⟨rfl,S,n,d⟩;·obtain⟨h,_,g,_⟩:=I.list hq;refine⟨g.isList.typeIs,λa e=>?_⟩;cases e;obtain⟨o,n,e,c,hd,_⟩:=g;exact⟨o,e,hd⟩
   ·refine⟨⟨o,I.lD p o d,hc⟩,λa e=>?_⟩;cases e;exact⟨o,I.lD _ o d,hd⟩
   ·have z:∃o,s.heap.get? p=some o/\o.ExactDict:=by
     rcases d with⟨kvs,d⟩|⟨kvs,d⟩;·obtain⟨_,_,_,_,o,_,_,e,ex,_⟩:=I.bV p _ d;exact⟨o,e,ex⟩
     ·obtain⟨_,_,_,_,o,_,_,e,ex,_⟩:=I.bV p _ d;exact⟨o,e,ex⟩
    obtain⟨o,e,ex⟩:=z;refine⟨⟨o,e,ex.1⟩,λa f=>?_⟩;cases f;exact⟨o,e,ex.2.1⟩
   ·obtain⟨o,_,_,_,e,ex,_⟩:=I.bV p _ d;refine⟨⟨o,e,ex.1⟩,λa f=>?_⟩;cases f;exact⟨o,e,ex.2.1⟩
  |_=>exact False.elim ty
noncomputable def ZM(K:PySem.W.Frag)(T:String)(r:V->List V->Hp->VK->Prop)(to:TE):TE:=λσ H Q=>to σ H λx c=>Y9 K T x c/\r x [] c Q
noncomputable def tBM(K:PySem.W.Frag)(T:String)(r:V->List V->Hp->VK->Prop)(to:TE)(t:TA):TE:=λσ H Q=>to σ H λx c=>Y9 K T x c/\t σ c λxs d=>r x xs d Q
variable{o e:Expr}{es:List Expr}{to:TE}{t:TA}{name:Str}{apos cP:Pos}{T id:String}{r:V->List V->Hp->VK->Prop}
theorem EM(k:PlainAttrs T)(slot:Slot T name id)(j:typeOf (.builtin id)=pure (.type "method_descriptor"))(hm:Rg X id r)(ho:PE X o to)(g:attributeBase o name X.env (eval o X.env)=eval o X.env:=by rfl)(i:(apos.endLine==cP.line)=true:=by rfl):PE X (.Call (.Attribute o name apos) [] [] cP) (ZM X.K T r to):=by intro pins s σ H Q I h;refine wpAny_Call_method0_late g i (bL (ho pins s σ H _ I h) λv s1 l=>?_);obtain⟨x,f,c,d,ty,q1⟩:=l;obtain⟨h1,h2⟩:=En c d ty;exact⟨T,id,k,slot,j,h1,h2,Calls.callWith_builtin rfl (PySem.evalArgs_none (hm pins s1 σ f x [] v [] Q c d .nil q1))⟩
theorem fW(u:PlainAttrs T)(slot:Slot T name id)(q:typeOf (.builtin id)=pure (.type "method_descriptor"))(hm:Rg X id r)(ho:PE X o to)(ha:PA X (e::es) t)(k:attributeBase o name X.env (eval o X.env)=eval o X.env:=by rfl)(l:((backTo cP (starEach (e::es) X.env)).all (λx=>!x.1)&&(backToKw cP (keywordEach [] X.env)).all (λx=>x.1.isSome)&&decide ((e::es).length+([]:List Keyword).length+(if([]:List Keyword).isEmpty then 0 else 1)<30))=true:=by rfl)(m:(apos.endLine==cP.line)=true:=by rfl)(p:starEach (e::es) X.env=(false,eval e X.env)::starEach es X.env:=by rfl)(n:(backTo cP (starEach es X.env)).any (·.1)=false:=by rfl):PE X (.Call (.Attribute o name apos) (e::es) [] cP) (tBM X.K T r to t):=by intro pins s σ H Q I h;refine wpAny_Call_method_late k l m rfl (bL (ho pins s σ H _ I h) λv s1 y=>?_);obtain⟨x,g,c,f,ty,q1⟩:=y;obtain⟨h1,h2⟩:=En c f ty;refine⟨T,id,u,slot,q,h1,h2,?_⟩;have d:=ha cP pins s1 σ g _ c q1;rw[p]at d⊢;refine Calls.callWith_builtin (by show(false||(backTo cP (starEach es X.env)).any (·.1))=false;rw[n]<;>rfl) (Calls.evalArgs_plain ?_);exact bL d λus s2⟨vs,i,j,w,q2⟩=>hm pins s2 σ i x vs v us Q j f w q2
end
noncomputable def ZC(X:Cx)(id:String)(r:V->List V->Hp->VK->Prop):Prop:=∀(pins:List (Addr×Obj))(s:Shared)(σ:St)(H:Hp)(x:V)(xs:List V)(v:Value)(us:List Value)(Q:VK),Inv X pins σ H s->RelV x v->Vals xs us->r x xs H Q->wpAny (model X.prog X.w) X.A (call (.builtin id) (v::us)) (EP X pins σ Q) X.xe s
theorem Vals.one{x:V}{us:List Value}(h:Vals [x] us):∃u,us=[u]/\RelV x u:=by cases h with|cons r e=>cases e;exact⟨_,rfl,r⟩
theorem Vals.two{x y:V}{us:List Value}(h:Vals [x,y] us):∃u v,us=[u,v]/\RelV x u/\RelV y v:=by cases h with|cons r t=>cases t with|cons q e=>cases e;exact⟨_,_,rfl,r,q⟩
theorem Vals.zero:∀{us:List Value},Vals [] us->us=[]|_, .nil=>rfl
theorem Vals.reverse{xs:List V}{us:List Value}(h:Vals xs us):Vals xs.reverse us.reverse:=by induction h with|nil=>exact .nil|cons r t a=>rw[List.reverse_cons,List.reverse_cons];exact Vals.append a (.cons r .nil)
section
variable{X:Cx}{pins:List (Addr×Obj)}{σ:St}{H:Hp}{s:Shared}{l b:Addr}{xs ys zs:List V}
theorem Inv.Qm{a its':List Value}{n:Nat}{f:Array Value->Array Value}{t':Nat}(I:Inv X pins σ H s)(hH:H l=some (.lst xs))(e:s.heap.get? l=some {cls:= .type "list",data:= .seq a.toArray n})(c:f a.toArray=its'.toArray)(hv:Vals ys its')(g:ys.length<=sizeLine):Inv X pins σ (upd H l (.lst ys)) {s with heap:=s.heap.update l (Obj.mapSeq f),toks:=t'}:=by have q:=PySem.IsL.update e f;rw[c]at q;refine I.write (x:=l) (e:=l) (by rw[hH];exact trivial) (.inl rfl) (λh u hb d=>(gF s.heap (Obj.mapSeq f) (Ne.symm hb)).trans d) ⟨_,q⟩ ?_;exact⟨g,its',_,hv,q⟩
theorem Inv.Sm{a:List Value}{t':Nat}(I:Inv X pins σ H s)(hv:Vals ys a)(c:ys.length<=sizeLine):Inv X pins σ (upd H s.heap.objs.size (.lst ys)) {s with heap:=s.heap.push {cls:= .type "list",data:= .seq a.toArray},toks:=t'}:=I.laid (λ_ _ q=>zQ01 _ q) (zQ04 _) ⟨c,a,0,hv,zQ11 _ rfl⟩
theorem Inv.fresh(I:Inv X pins σ H s):H s.heap.objs.size=none:=I.bV.fresh (zQ04 _)
theorem Inv.DS(I:Inv X pins σ H s)(hH:H l=some (.lst xs)):xs.length<=sizeLine/\∃(a:List Value)(n:Nat),Vals xs a/\xs.length=a.length/\s.heap.get? l=some {cls:= .type "list",data:= .seq a.toArray n}:=by obtain⟨z,a,n,r,e⟩:=I.bV l _ hH;exact⟨z,a,n,r,r.length,e⟩
theorem FV{n:Nat}(h:n<=sizeLine):Builtin.List.listTooLong n=false:=by unfold Builtin.List.listTooLong;exact decide_eq_false (by lia)
end
section
variable{X:Cx}
noncomputable def zH:V->List V->Hp->VK->Prop:=λx vs H Q=>∃l xs y,x= .ref l/\vs=[y]/\H l=some (.lst xs)/\xs.length<sizeLine/\Q .bz (upd H l (.lst (xs++[y])))
theorem cJ:ZC X "list.append" zH:=by intro pins s σ H x vs v us Q I d c h;obtain⟨l,xs,y,rfl,rfl,hH,f,q⟩:=h;cases d;obtain⟨u,rfl,b⟩:=c.one;obtain⟨z,a,n,r,hl,e⟩:=I.DS hH;refine call_meets F.slot_list_append ⟨_,e,rfl⟩ F.entry_list_append (F.args_list_append_2 _ _) (PySem.list_append l a.toArray n u (by rw[cw];lia)) ⟨e,?_⟩;refine⟨.bz,_,I.Qm (its':=a++[u]) hH e (by simp) (r.append (.cons b .nil)) ?_,rfl,q⟩;rw[cE,List.length_singleton];lia
noncomputable def Jc:V->List V->Hp->VK->Prop:=λx vs H Q=>∃l b xs a,x= .ref l/\vs=[.ref b]/\H l=some (.lst xs)/\H b=some (.lst a)/\xs.length+a.length<=sizeLine/\Q .bz (upd H l (.lst (xs++a)))
theorem tT:ZC X "list.extend" Jc:=by
 intro pins s σ H x vs v us Q I o m h;obtain⟨l,b,xs,y,rfl,rfl,hH,f,t,q⟩:=h;cases o;obtain⟨u,rfl,k⟩:=m.one;cases k;obtain⟨z,a,n,r,hl,e⟩:=I.DS hH;obtain⟨w,c,i,j,p,d⟩:=I.DS f;have hsz:a.toArray.size+c.toArray.size<=sizeLine:=by rw[cw,cw];lia
 have g:¬(!a.toArray.isEmpty&&Builtin.List.listTooLong (a.toArray.size+c.toArray.size))=true:=by rw[FV hsz,Bool.and_false];exact dA
 refine call_meets F.slot_list_extend ⟨_,e,rfl⟩ F.entry_list_extend (F.args_list_extend_2 _ _) (AutoSeq1.list_extend_list_list_0 l a.toArray n b c.toArray i g (by rw[cw];lia) (by lia)) ⟨e,d,?_⟩;refine⟨.bz,_,I.Qm (its':=a++c) hH e (by simp) (r.append j) ?_,rfl,q⟩;rw[cE];lia
noncomputable def EF:V->List V->Hp->VK->Prop:=λx vs H Q=>∃l xs,x= .ref l/\vs=[]/\H l=some (.lst xs)/\Q .bz (upd H l (.lst xs.reverse))
theorem qV:ZC X "list.reverse" EF:=by intro pins s σ H x vs v us Q I d c h;obtain⟨l,xs,rfl,rfl,hH,q⟩:=h;cases d;have b:=c.zero;subst b;obtain⟨z,a,n,r,hl,e⟩:=I.DS hH;refine call_meets F.slot_list_reverse ⟨_,e,rfl⟩ F.entry_list_reverse (F.args_list_reverse_1 _) (AutoSeq1.list_reverse_list_0 l a.toArray n (by rw[cw];lia)) ⟨e,?_⟩;refine⟨.bz,_,I.Qm (its':=a.reverse) hH e (by simp) r.reverse ?_,rfl,q⟩;rw[List.length_reverse];lia
noncomputable def Xl:R2:=λx y H Q=>∃l b xs a,x= .ref l/\y= .ref b/\H l=some (.lst xs)/\H b=some (.lst a)/\xs.length+a.length<=sizeLine/\∀p,H p=none->Q (.ref p) (upd H p (.lst (xs++a)))
theorem rH:il X (binaryOp .Add) Xl:=by
 intro pins s σ H x y v u Q I j k h;obtain⟨l,b,xs,w,rfl,rfl,hH,g,o,q⟩:=h;cases j;cases k;obtain⟨z,a,n,r,hl,e⟩:=I.DS hH;obtain⟨t,c,p,i,m,d⟩:=I.DS g;refine PySem.P.add_list e d ?_ (by rw[cw,cw];lia);have f:a.toArray++c.toArray=(a++c).toArray:=by simp
 rw[f];exact⟨.ref _,_,I.Sm (t':=s.toks) (r.append i) (by rw[cE];lia),rfl,q _ I.fresh⟩
end
section
variable{prog:Program}{w:World}{A:Around}{E:Value->Shared->Prop}{s:Shared}
end
section
variable{X:Cx}
end
section
variable{κ:Type}[DecidableEq κ]
noncomputable def dY(kvs:List (κ×V))(k:κ):Option V:=(kvs.find? λkv=>decide (kv.1=k)).map (·.2)
noncomputable def putK(kvs:List (κ×V))(k:κ)(v:V):List (κ×V):=if(kvs.any λkv=>decide (kv.1=k))=true then kvs.map (λkv=>if kv.1=k then(kv.1,v)else kv)else kvs++[(k,v)]
theorem iZ{p:κ×V}{r:List (κ×V)}{k:κ}(e:p.1=k):dY (p::r) k=some p.2:=by simp[dY,List.find?_cons,e]
theorem qI{p:κ×V}{r:List (κ×V)}{k:κ}(e:¬p.1=k):dY (p::r) k=dY r k:=by simp[dY,List.find?_cons,e]
theorem qy(k:κ):∀kvs:List (κ×V),(kvs.any λkv=>decide (kv.1=k))=(dY kvs k).isSome
 |[]=>rfl
 |p::r=>by
  rw[List.any_cons];by_cases e:p.1=k;·simp only[iZ e,decide_eq_true e,Bool.true_or,Option.isSome_some]
  ·rw[qI e,decide_eq_false e,Bool.false_or];exact qy k r
theorem kW(kvs:List (κ×V))(k:κ)(v:V):(putK kvs k v).length<=kvs.length+1:=by
 unfold putK;split;·rw[br];lia
 ·rw[cE,cU,List.length_nil];lia
theorem zG.ku{o:Option V}{u:Option Value}(r:zG o u):o.isSome=u.isSome:=by
 cases o with
  |none=>cases u with|none=>rfl|some _=>exact(show False from r).elim
  |some _=>cases u with|none=>exact(show False from r).elim|some _=>rfl
theorem KV.val{kvs:List (κ×V)}{vs:List (κ×Value)}(r:KV kvs vs)(k:κ):zG (dY kvs k) (valueAt vs k):=by
 unfold KV at r;induction r with
  |nil=>exact True.intro
  |@cons p q ps c h t d=>
   obtain⟨h1,h2⟩:=h;by_cases e:p.1=k
   ·have a:q.1=k:=h1.symm.trans e;have b:valueAt (q::c) k=some q.2:=by simp[valueAt,List.find?_cons,a]
    rw[iZ e,b];exact h2
   ·have a:¬q.1=k:=λz=>e (h1.trans z);have b:valueAt (q::c) k=valueAt c k:=by simp[valueAt,List.find?_cons,a]
    rw[qI e,b];exact d
theorem KV.any{kvs:List (κ×V)}{vs:List (κ×Value)}(r:KV kvs vs)(k:κ):(kvs.any λkv=>decide (kv.1=k))=vs.any λkv=>decide (kv.1=k):=by unfold KV at r;induction r with|nil=>rfl|cons h t a=>rw[List.any_cons,List.any_cons,a,h.1]
theorem KV.Ox{kvs:List (κ×V)}{vs:List (κ×Value)}(r:KV kvs vs)(k:κ){y:V}{u:Value}(b:RelV y u):KV (kvs.map λkv=>if kv.1=k then(kv.1,y)else kv) (vs.map λkv=>if kv.1=k then(kv.1,u)else kv):=by
 unfold KV at r⊢;induction r with
  |nil=>exact .nil
  |@cons p q ps c h t a=>
   rw[cF,cF];refine .cons ?_ a;obtain⟨h1,h2⟩:=h;by_cases e:p.1=k;·rw[if_pos e,if_pos (h1.symm.trans e)];exact⟨h1,b⟩
   ·rw[if_neg e,if_neg (λz=>e (h1.trans z))];exact⟨h1,h2⟩
theorem KV.put{kvs:List (κ×V)}{vs:List (κ×Value)}(r:KV kvs vs)(k:κ){y:V}{u:Value}(a:RelV y u):KV (putK kvs k y) (stored vs k u):=by
 unfold putK stored;rw[r.any k];by_cases e:(vs.any λkv=>decide (kv.1=k))=true;·rw[if_pos e,if_pos e];exact r.Ox k a
 ·rw[if_neg e,if_neg e];exact Paired.snoc r ⟨rfl,a⟩
theorem KV.length{kvs:List (κ×V)}{vs:List (κ×Value)}(r:KV kvs vs):kvs.length=vs.length:=Paired.length r
end
theorem GV{P:Program}{w:World}{k:Key}{u:Value}(r:RelV (kV k) u):(cM P w).is k u=true:=by cases k with|inl i=>obtain⟨t,e⟩:=(show∃t,u=Value.int i t from r);subst e;exact wK P w i t|inr x=>obtain⟨t,e⟩:=(show∃t,u=Value.str x t from r);subst e;exact wL P w x t
theorem tj{P:Program}{w:World}:∀{ks:List Key}{us:List Value},Vals (ks.map kV) us->ItemsAre (cM P w) ks us|[],_,r=>by rw[List.map_nil]at r;cases r;exact .nil|k::ks,_,r=>by rw[cF]at r;cases r with|cons h t=>exact .cons (GV h) (tj t)
noncomputable abbrev KT(H:Hp):List (List Key×V)->List (List Key×Addr×Value)->Prop:=Paired λp q=>p.1=q.1/\H q.2.1=some (.tup (p.1.map kV))/\RelV p.2 q.2.2
theorem KT.val{H:Hp}{kvs:List (List Key×V)}{xs:List (List Key×Addr×Value)}(r:KT H kvs xs)(k:List Key):zG (dY kvs k) ((atKey xs k).map (·.2)):=by
 induction r with
  |nil=>exact True.intro
  |@cons p q ps c h t d=>
   obtain⟨h1,_,h2⟩:=h;by_cases e:p.1=k
   ·have a:q.1=k:=h1.symm.trans e;have b:atKey (q::c) k=some q.2:=by simp[atKey,List.find?_cons,a]
    rw[iZ e,b];exact h2
   ·have a:¬q.1=k:=λz=>e (h1.trans z);have b:atKey (q::c) k=atKey c k:=by simp[atKey,List.find?_cons,a]
    rw[qI e,b];exact d
theorem KT.Ox{H:Hp}{kvs:List (List Key×V)}{xs:List (List Key×Addr×Value)}(r:KT H kvs xs)(k:List Key){y:V}{u:Value}(b:RelV y u):KT H (kvs.map λkv=>if kv.1=k then(kv.1,y)else kv) (xs.map (putAt k u)):=by
 induction r with
  |nil=>exact .nil
  |@cons p q ps c h t a=>
   rw[cF,cF];refine .cons ?_ a;obtain⟨h1,h2,h3⟩:=h;unfold putAt;by_cases e:p.1=k;·rw[if_pos e,if_pos (h1.symm.trans e)];exact⟨h1,h2,b⟩
   ·rw[if_neg e,if_neg (λz=>e (h1.trans z))];exact⟨h1,h2,h3⟩
theorem KT.put{H:Hp}{kvs:List (List Key×V)}{xs:List (List Key×Addr×Value)}(r:KT H kvs xs)(k:List Key){b:Addr}{y:V}{u:Value}(hb:H b=some (.tup (k.map kV)))(a:RelV y u):KT H (putK kvs k y) (storedH xs k b u):=by
 have e:(kvs.any λkv=>decide (kv.1=k))=(atKey xs k).isSome:=by rw[qy,(r.val k).ku,Option.isSome_map]
 unfold putK storedH;rw[e];by_cases q:(atKey xs k).isSome=true;·rw[if_pos q,if_pos q];exact r.Ox k a
 ·rw[if_neg q,if_neg q];exact Paired.snoc r ⟨rfl,hb,a⟩
theorem KT.keeps{H H':Hp}{kvs:List (List Key×V)}{xs:List (List Key×Addr×Value)}(r:KT H kvs xs)(ht:∀b a,H b=some (.tup a)->H' b=some (.tup a)):KT H' kvs xs:=Paired.Pt r λ_ _ z=>⟨z.1,ht _ _ z.2.1,z.2.2⟩
section
variable{P:Program}{w:World}{H:Hp}{h:Heap}{a:Addr}
theorem Li{u:HO}(ok:gJ P w H h)(e:Rd H a u):bP P w H h a u:=e.ok ok
theorem KZ{kvs:List (Key×V)}(ok:gJ P w H h)(e:Rd H a (.dK kvs)):kvs.length<=sizeLine/\(a==sysModules)=false/\∃vs,KV kvs vs/\h.DictOf (cM P w) a vs:=show bP P w H h a (.dK kvs)from Li ok e
theorem Vw{kvs:List (Key×V)}(ok:gJ P w H h)(e:H a=some (.dK kvs)):kvs.length<=sizeLine/\(a==sysModules)=false/\∃vs,KV kvs vs/\h.DictOf (cM P w) a vs:=KZ ok (.inl e)
theorem zg{ks:List Key}(ok:gJ P w H h)(e:H a=some (.tup (ks.map kV))):(tupleKind (cM P w)).is h ks a:=by obtain⟨_,b,r,o,h1,h2,n,h3⟩:=(show bP P w H h a (.tup (ks.map kV))from ok a _ e);exact⟨o,b.toArray,n,h1,h2,h3,by simpa using tj r⟩
theorem L_{kvs:List (List Key×V)}(ok:gJ P w H h)(e:Rd H a (.dT kvs)):kvs.length<=sizeLine/\(a==sysModules)=false/\∃xs,KT H kvs xs/\h.DictOfH (tupleKind (cM P w)) a xs:=by
 obtain⟨z,y,xs,r,o,es,ep,h1,h2,h3,h4,h5⟩:=(show bP P w H h a (.dT kvs)from Li ok e);refine⟨z,y,xs,r,o,es,ep,h1,h2,h3,h4,λx b=>?_,h5⟩;have all:∀{l:List (List Key×V)}{m:List (List Key×Addr×Value)},KT H l m->∀x∈m,(tupleKind (cM P w)).is h x.1 x.2.1:=by
  intro l m q;induction q with
   |nil=>intro x b;exact nomatch b
   |@cons p q ps d hq t c=>
    intro x b;rcases List.mem_cons.mp b with e|b;·subst e;exact zg ok (by rw[<-hq.1];exact hq.2.1)
    ·exact c x b
 exact all r x b
theorem Si{kvs:List (List Key×V)}(ok:gJ P w H h)(e:H a=some (.dT kvs)):kvs.length<=sizeLine/\(a==sysModules)=false/\∃xs,KT H kvs xs/\h.DictOfH (tupleKind (cM P w)) a xs:=L_ ok (.inl e)
end
noncomputable def EZ(H:Hp)(a:Addr)(y:V)(r:Option V):Prop:=(∃kvs k,Rd H a (.dK kvs)/\y=kV k/\r=dY kvs k)\/∃kvs k b,Rd H a (.dT kvs)/\y= .ref b/\H b=some (.tup (k.map kV))/\r=dY kvs k
noncomputable def GC(H:Hp)(a:Addr)(y v:V)(H':Hp):Prop:=(∃kvs k,H a=some (.dK kvs)/\y=kV k/\kvs.length<sizeLine/\H'=upd H a (.dK (putK kvs k v)))\/∃kvs k b,H a=some (.dT kvs)/\y= .ref b/\H b=some (.tup (k.map kV))/\kvs.length<sizeLine/\H'=upd H a (.dT (putK kvs k v))
theorem EZ.k{H:Hp}{a:Addr}{kvs:List (Key×V)}{k:Key}(e:H a=some (.dK kvs)):EZ H a (kV k) (dY kvs k):= .inl ⟨kvs,k, .inl e,rfl,rfl⟩
theorem GC.k{H:Hp}{a:Addr}{kvs:List (Key×V)}{k:Key}{v:V}(e:H a=some (.dK kvs))(hl:kvs.length<sizeLine):GC H a (kV k) v (upd H a (.dK (putK kvs k v))):= .inl ⟨kvs,k,e,rfl,hl,rfl⟩
section
variable{X:Cx}{pins:List (Addr×Obj)}{σ:St}{H:Hp}{s:Shared}{a:Addr}{y v:V}{u r:Value}{o:Option V}{A:Around}{E:Value->Shared->Prop}
theorem Inv.big(I:Inv X pins σ H s):sysModules<s.heap.objs.size:=by have h:mainGlobals<s.heap.objs.size:=(I.mod.glob.keeps I.bk).lt;exact Nat.lt_trans (by decide) h
theorem Ko{Q:Value->Shared->Prop}(j:A.units+1<cLine)(I:Inv X pins σ H s)(g:EZ H a y o)(f:RelV y u)(h:∀s',Inv X pins σ H s'->Q (.bool (!o.isSome)) s'):wpAny (model X.prog X.w) A (compareOp .NotIn u (.ref a)) Q E s:=by
 rcases g with⟨kvs,k,e,d,l⟩|⟨kvs,k,b,e,d,i,l⟩;·subst d;obtain⟨z,hd,vs,rel,c⟩:=KZ I.bV e;refine wpAny_notIn_of (GV f) hd c.mapOf ?_;rw[<-(rel.val k).ku,<-l];exact h _ (I.tok _)
 ·subst d;cases(show u=Value.ref b from f);obtain⟨z,hd,xs,rel,c⟩:=L_ I.bV e;refine wpAny_notIn_heap (tupleKind_room_in1 j) (zg I.bV i) hd c ?_;have q:=(rel.val k).ku;rw[Option.isSome_map]at q;rw[<-q,<-l];exact h _ (I.tok _)
theorem Az{h':Heap}{t':Nat}{ob:HO}(I:Inv X pins σ H s)(d:Sj (H a))(c:Heap.SameBut a s.heap h')(he:∃q,h'.get? a=some q)(new:bP X.prog X.w (upd H a ob) h' a ob):Inv X pins σ (upd H a ob) {s with heap:=h',toks:=t'}:=I.write (x:=a) (e:=a) d (.inl rfl) (λb q hb z=>(c.2 b hb).trans z) he new
theorem NA{P:Program}{w:World}{H':Hp}{h':Heap}{kvs:List (Key×V)}{vs:List (Key×Value)}(z:kvs.length<=sizeLine)(hd:(a==sysModules)=false)(rel:KV kvs vs)(b:h'.DictOf (cM P w) a vs):bP P w H' h' a (.dK kvs):=⟨z,hd,vs,rel,b⟩
theorem DE{H':Hp}{Q:Unit->Shared->Prop}(B:A.units+1<cLine)(I:Inv X pins σ H s)(g:GC H a y v H')(x:RelV y u)(w:RelV v r)(h:∀s',Inv X pins σ H' s'->Q () s'):wpAny (model X.prog X.w) A (setItem (.ref a) u r) Q E s:=by
 rcases g with⟨kvs,k,e,j,l,i⟩|⟨kvs,k,b,e,j,p,l,i⟩
 ·subst j i;obtain⟨z,hd,vs,rel,f⟩:=Vw I.bV e;have n:vs.length<=sizeLine:=by rw[<-rel.length];exact z
  have hl:(putK kvs k v).length<=sizeLine:=by have :=kW kvs k v;lia
  refine wpAny_setItem_pairs (hsz:=n) (GV x) f λh' d m=>h _ ?_;have he:∃q,h'.get? a=some q:=let⟨q,_,_,hq,_⟩:=d;⟨q,hq⟩;exact Az I (by rw[e];exact True.intro) m he (NA hl hd (rel.put k w) d)
 ·subst j i;cases(show u=Value.ref b from x);obtain⟨z,hd,xs,rel,f⟩:=Si I.bV e;have n:xs.length<=sizeLine:=by rw[<-Paired.length rel];exact z
  have hl:(putK kvs k v).length<=sizeLine:=by have :=kW kvs k v;lia
  refine wpAny_setItem_heap (hsz:=n) (tupleKind_room_in1 B) (zg I.bV p) f λh' d m=>h _ ?_;obtain⟨q,es,ep,hq,h2,h3,h4,_,h5⟩:=d;refine Az I (by rw[e];exact True.intro) m ⟨q,hq⟩ ⟨hl,hd,_,(rel.put k p w).keeps λc C t=>?_,q,es,ep,hq,h2,h3,h4,h5⟩;rw[bb (Ud t e (λz=>nomatch z))];exact t
end
section
variable{X:Cx}{pins:List (Addr×Obj)}{σ:St}{H:Hp}{s:Shared}{a:Addr}{kvs:List (Key×V)}{k:Key}{u:Value}{A:Around}{E:Value->Shared->Prop}
end
def To(i:Expr):Prop:=∀b a,subscripted i false b a=operate [b,a] (getItem b a)
theorem JD{prog:Program}{w:World}{A:Around}{E:Value->Shared->Prop}{s:Shared}{env:Env}{value slice:Expr}{f:Pos}{T id:String}{Q:Value->Shared->Prop}(hl:typeLookup (.type T) "__getitem__"=pure (some (.builtin id)))(c:To slice)(h:wpAny (model prog w) A (eval value env) (λo s₁=>wpAny (model prog w) A (eval slice env) (λi s₂=>s₂.TypeIs o T/\wpAny (model prog w) A (getItem o i) Q E s₂) E s₁) E s):wpAny (model prog w) A (eval (.Subscript value slice f) env) Q E s:=by
 refine Subscript_ (wpAny_mono h (λo s₁ d=>wpAny_mono d (λi s₂ a=>?_) λ_ _ x=>x) λ_ _ x=>x);obtain⟨hT,a⟩:=a;unfold subscriptTail;refine zQ00 ?_;rw[getitemInPython_of_ne hT.not_modules];refine zQ00 (wpAny_specialOf hT hl ?_);have fin:wpAny (model prog w) A (subscripted slice false o i) (λr b=>wpAny (model prog w) A (letTemporaryGo value o r>>=λ_=>pure r) Q E b) E s₂:=by rw[c o i];exact wpAny_operating (wpAny_mono a (λr b e=>zQ00 (wpAny_letTemporaryGo (zQ02 e))) λ_ _ x=>x)
 first|exact zQ02 (zQ00 fin)|exact zQ00 (zQ02 (zQ00 fin))|exact zQ00 fin
noncomputable def ID(ty d:TE):TE:=λσ H Q=>ty σ H λy c=>d σ c λx b=>∃a o,x= .ref a/\EZ b a y o/\Q (.bl (!o.isSome)) b
noncomputable def RT(f ty g:TE):TS:=λD σ H=>g σ H λv c=>f σ c λx d=>ty σ d λy e=>∃a b,x= .ref a/\GC e a y v b/\D.nx σ b
section
variable{X:Cx}{o i e value:Expr}{pos pos' P0:Pos}{td ty tv:TE}
theorem Dr(k:X.A.units+1<cLine)(hi:PE X i ty)(ho:PE X o td):PC X .NotIn i o (ID ty td):=by intro pins s σ H Q I h;refine bL (hi pins s σ H _ I h) λq s1⟨y,b,d,n,q1⟩=>bL (ho pins s1 σ b _ d q1) λu s2 p=>?_;obtain⟨x,c,f,m,a,l,ex,g,q2⟩:=p;subst ex;obtain rfl:u=Value.ref a:=m;exact Ko k f g n λr j=>⟨.bl (!l.isSome),c,j,rfl,q2⟩
theorem IT(n:X.A.units+1<cLine)(ho:PE X o td)(hi:PE X i ty)(hv:PE X value tv)(m:swapsWith value (some (.Subscript o i pos')) pos.line X.env=pure false):PS X (.Assign [.Subscript o i pos'] value pos) (RT td ty tv):=by intro pins s σ H D I h;refine wpAny_Assign_Subscript (bL (hv pins s σ H _ I h) λr s1⟨v,b,f,p,q1⟩=>bL (ho pins s1 σ b _ f q1) λu s2⟨x,c,j,q,q2⟩=>bL (hi pins s2 σ c _ j q2) λA B w=>?_) m;obtain⟨y,z,k,t,a,d,ex,g,q3⟩:=w;subst ex;obtain rfl:u=Value.ref a:=q;exact DE n k g t p λC l=>⟨σ,d,l,q3⟩
end
theorem FE{P:Program}{w:World}{H:Hp}(h:Heap)(hb:sysModules<h.objs.size):bP P w H (h.push {cls:= .type "dict",data:= .dict #[]}) h.objs.size (.dK []):=⟨zQ27 _,beq_eq_false_iff_ne.mpr (Ne.symm (zQ23 hb)),[], .nil,Heap.DictOf.new h⟩
noncomputable def Ov:TE:=λ_ H Q=>∀p,H p=none->Q (.ref p) (upd H p (.dK []))
section
variable{X:Cx}{pos:Pos}
theorem FD:PE X (.Dict [] [] pos) Ov:=λpins s σ H Q I h=>wpAny_Dict_empty ⟨.ref s.heap.objs.size,_,I.laid (a:=s.heap.objs.size) (o:= .dK []) (t':=s.toks) (λ_ _ q=>zQ01 _ q) (zQ04 _) (FE s.heap I.big),rfl,h _ (I.bV.fresh (zQ04 _))⟩
end
noncomputable def ET:List (TE×TE)->St->Hp->(List (V×V)->Hp->Prop)->Prop|[],_,H,Q=>Q [] H|(tk,d)::r,σ,H,Q=>tk σ H λx a=>d σ a λy b=>ET r σ b λps c=>Q ((x,y)::ps) c
noncomputable abbrev VV:List (V×V)->List (Value×Value)->Prop:=Paired λp q=>RelV p.1 q.1/\RelV p.2 q.2
noncomputable def Fg(X:Cx)(a:Pos)(keys:List (Option Expr))(values:List Expr)(b:List (TE×TE)):Prop:=∀(pins:List (Addr×Obj))(s:Shared)(σ:St)(H:Hp)(Q:List (V×V)->Hp->Prop),Inv X pins σ H s->ET b σ H Q->wpAny (model X.prog X.w) X.A (evalPairs (pairTrees keys values X.env a)) (λvs s'=>∃ps H',Inv X pins σ H' s'/\VV ps vs/\Q ps H') X.xe s
structure M1(X:Cx)(o:Expr)(m:Str)(apos:Pos)(e:Expr)(cP:Pos):Prop where
 base:attributeBase o m X.env (eval o X.env)=eval o X.env
 HW:((backTo cP (starEach [e] X.env)).all (λx=>!x.1)&&(backToKw cP (keywordEach [] X.env)).all (λx=>x.1.isSome)&&decide (([e]:List Expr).length+([]:List Keyword).length+(if([]:List Keyword).isEmpty then 0 else 1)<30))=true
 line:(apos.endLine==cP.line)=true
 trees:backTo cP (starEach [e] X.env)=[(false,eval e X.env)]
structure M2(X:Cx)(o:Expr)(m:Str)(apos:Pos)(e f:Expr)(cP:Pos):Prop where
 base:attributeBase o m X.env (eval o X.env)=eval o X.env
 HW:((backTo cP (starEach [e,f] X.env)).all (λx=>!x.1)&&(backToKw cP (keywordEach [] X.env)).all (λx=>x.1.isSome)&&decide (([e,f]:List Expr).length+([]:List Keyword).length+(if([]:List Keyword).isEmpty then 0 else 1)<30))=true
 line:(apos.endLine==cP.line)=true
 trees:backTo cP (starEach [e,f] X.env)=[(false,eval e X.env),(false,eval f X.env)]
section
variable{X:Cx}{pins:List (Addr×Obj)}{σ:St}{H:Hp}{s:Shared}{a:Addr}{y d:V}{u r:Value}{o:Option V}{A:Around}{E:Value->Shared->Prop}
end
section
variable{X:Cx}{o e f:Expr}{apos cP:Pos}{td ty tx:TE}
end
section
variable{X:Cx}{pins:List (Addr×Obj)}{σ:St}{H:Hp}{s:Shared}{a:Addr}{kvs:List (Key×V)}{A:Around}{E:Value->Shared->Prop}
end
section
variable{X:Cx}{pins:List (Addr×Obj)}{σ:St}{H:Hp}{s:Shared}{a:Addr}{y:V}{u:Value}{A:Around}{E:Value->Shared->Prop}
end
end L2
end
section
namespace Z0
open PySem PySem.W PySem.Calls PyProof.Rows
theorem mf{P:Params}{h:Heap}:∀(ns:List Int)(vs:List Value),WellAll P h vs (ns.map WData.int)->IntsAre vs ns:=by intro ns;induction ns with|nil=>intro vs w;rw[List.map_nil]at w;cases w;exact .nil|cons n ns c=>intro vs w;rw[cF]at w;cases w with|cons a b=>cases a;exact .cons _ _ (c _ b)
theorem CN{l:OpenLaw}{n:Nat}(hn:l.most=some n){P:Params}{h:Heap}{args:List WData}{vals:List Value}(b:l.row.toRowW.claim.pre args=true)(f:WellAll P h vals args):∃a vs ns,vals=[Value.ref a]/\args=[WData.list (ns.map WData.int)]/\h.get? a=some {cls:= .type "list",data:= .seq vs.toArray}/\IntsAre vs ns/\ns.length<=n:=by
 have e:WShape.hasAll [] args [.list .int]=true:=(pre_splitW b).1;have hc:l.pre.holds [] {args:=args}=true:=(pre_splitW b).2;obtain⟨d,r,rfl,h1,h2⟩:=hasAllW_cons e;obtain rfl:=hasAllW_nil h2;obtain⟨xs,rfl,h3⟩:=hasW_list h1;obtain⟨ns,rfl⟩:=items_int h3;have hlen:ns.length<=n:=by
  unfold OpenLaw.pre at hc;have h4:(WTm.not (.lt (.lit (.int (n:Int))) (.len (.arg 0)))).holds [] {args:=[.list (ns.map .int)]}=true:=by have h4:=(holds_andW hc).1;rw[hn]at h4;exact h4
  have h5:=condW_of h4 (w_not (w_lt w_lit (w_len_list (w_arg rfl))));rw[br]at h5;refine Nat.le_of_not_lt λq=>?_;have g:(n:Int)<((ns.length:Nat):Int):=by lia
  first|(rw[decide_eq_true g]at h5;exact absurd h5 (by decide))|(simp at h5;lia)
 cases f with|cons i j=>cases j;cases i with|list ho c=>exact⟨_,_,ns,rfl,rfl,ho,mf ns _ c,hlen⟩
theorem Dk(l:OpenLaw)(args:List WData):l.row.toRowW.claim.post args (.bool true) args=true:=postW_of (r:=l.row.toRowW) (X:=(true==true)) (show WShape.has [] (.bool true) .bool=true by first|rfl|decide|simp[WShape.has,WShape.arms,WShape.armsAll]) (show(WTm.eq .res (.lit (.bool true))).value [] {args:=args,res:=some (.bool true),after:=args}=some (.bool (true==true))from w_eq_bool (w_res rfl) w_lit) rfl
theorem yp{l:OpenLaw}{n:Nat}{q:Program}{loose:List Str}{XP:(Str->Option Value)->Heap->Prop}{YP:World->Heap->Prop}{d:DefRec}(hn:l.most=some n)(g:d.params.defaults=[])(call:∀(w:World)(bU s₁:Shared)(mg mb:Str->Option Value)(fa:Addr)(o:Obj)(pm cd doc:Value)(a:Addr)(vs:List Value)(ns:List Int),Ground q loose [] XP w bU mg mb s₁.heap->YP w s₁.heap->s₁.heap.get? fa=some o->o.data= .func (docDef d.name d.params d.body d.scope pm cd doc)->s₁.heap.CodeRec cd d.name->mg d.name=some (.ref fa)->s₁.heap.get? a=some {cls:= .type "list",data:= .seq vs.toArray}->IntsAre vs ns->ns.length<=n->s₁.gens=#[]->codeAny (model l.prog w) callerA (.call (.ref fa) ⟨[.ref a],[]⟩) (λr s'=>r= .ok (.ret (.bool true))/\OldK s₁.heap s'.heap/\s'.os=s₁.os/\AllBare s'.gens) s₁):WalkO q loose XP YP l.row.toRowW d [] (λf vs=>PySem.call f vs):=by intro w bU s₁ mg mb G Y fa o pm cd doc c kV ho hd e b hmg h args vals as j m s k p;obtain rfl:c= .none:=Dflts.none b g;obtain rfl:kV= .none:=Dflts.noKw b;obtain⟨a,vs,ns,rfl,rfl,i,hints,hlen⟩:=CN hn j k;refine enter_call (codeAny_mono (call w bU s₁ mg mb fa o pm cd doc a vs ns G Y ho (fd_plain hd) e hmg i hints hlen h) λr s' hq=>?_);obtain⟨rfl,h2,h3,h4⟩:=hq;exact⟨.inl ⟨.bool true, .bool true,[],rfl,λ_=>rfl, .bool true,Dk l _,λ_=>⟨List.Pairwise.nil,λ_ hm=>(nomatch hm)⟩⟩,h2,h3,h4⟩
section
variable{prog:Program}{w:World}{A:Around}{E:Value->Shared->Prop}{s:Shared}{K:Frag}
end
end Z0
end
section
namespace L2
open PySem PySem.Spec PyProof.Rows
theorem fU:∀{vs:List Value}{ns:List Int},IntsAre vs ns->Vals (ns.map V.int) vs|_,_, .nil=> .nil|_,_, .cons n t h=> .cons ⟨t,rfl⟩ (fU h)
def Qq(H:Hp):Prop:=∀b,H b=none\/∃o xs,H b=some (.yU o (.lst xs))
theorem GY{P:Program}{w:World}{K:PySem.W.Frag}{mg mb:Str->Option Value}{CX:wm}{k:Nat}{fa a:Addr}{fd:FuncData}{x:Str}{sp:Sp}{s₁:Shared}{vs:List Value}{ns:List Int}(KX:K.In s₁.heap)(D:s₁.heap.Ns mainGlobals mg)(hb:s₁.heap.Ns builtinsNs mb)(N:∀x:Str,x≠"__name__"->mb x=bootBuiltins x)(S:s₁.heap.NoLimit)(Q:OP mg s₁.heap)(R:s₁.gens=#[])(ha:s₁.heap.get? a=some {cls:= .type "list",data:= .seq vs.toArray})(hi:IntsAre vs ns)(hl:ns.length<=sizeLine)(hr:dQ k callerA)(F:∀base:Heap,K.In base->base.Ns mainGlobals mg->sH P w K mg base CX k fa fd [x] sp)(O:∀(s:Shared)(u:Value),BindsTo s fd ⟨[u],[]⟩ [(x,u)])(U:∀H:Hp,Qq H->aZ K H a (ns.map V.int)->sp [.ref a] H (λv _=>v= .bl true) λ_ _ _=>False)(J:∀H e s',CX callerA.handled [] H s₁ (λ_ _ _=>False) e s'->False):codeAny (model P w) callerA (.call (.ref fa) ⟨[.ref a],[]⟩) (λr s'=>r= .ok (.ret (.bool true))/\OldK s₁.heap s'.heap/\s'.os=s₁.os/\AllBare s'.gens) s₁:=by
 have E:=fU hi;have W:=hi.length;have core:∀H:Hp,Qq H->aZ K H a (ns.map V.int)->gJ P w H s₁.heap->(∀b,H b≠none->b=a)->(H a≠none->K.lookup a=none)->codeAny (model P w) callerA (.call (.ref fa) ⟨[.ref a],[]⟩) (λr s'=>r= .ok (.ret (.bool true))/\OldK s₁.heap s'.heap/\s'.os=s₁.os/\AllBare s'.gens) s₁:=by
  intro H C hS bV t L;have j:∀{b:Addr}{o:Obj},s₁.heap.get? b=some o->H b=none->(rl s₁.heap H).get? b=some o:=λe n=>xa e n;have Y:∀{b:Addr}{o:Obj}{es:Array DictEntry}{ep:Nat},s₁.heap.get? b=some o->o.data= .dict es ep->H b=none:=λ{b o es ep}e d=>by cases q:H b with|none=>rfl|some u=>have c:b=a:=t b (by rw[q];simp);subst c;rw[ha]at e;cases e;have d':Data.seq vs.toArray _=Data.dict es ep:=d;cases d'
  have i:∀{b:Addr}{m:Str->Option Value},s₁.heap.Ns b m->(rl s₁.heap H).Ns b m:=λ{b m}⟨o,es,ep,e,d,r⟩=>⟨o,es,ep,j e (Y e d),d,r⟩;have B:K.In (rl s₁.heap H):=λb o e=>j (KX b o e) (by cases q:H b with|none=>rfl|some u=>have c:b=a:=t b (by rw[q];simp);subst c;rw[L (by rw[q];simp)]at e;cases e);have G:∀{m:Str->Option Value},OP m s₁.heap->OP m (rl s₁.heap H):=λ{m}⟨bm,ob,g,l,p,A⟩=>⟨bm,ob,g,l,j p (by cases q:H bm with|none=>rfl|some u=>have c:bm=a:=t bm (by rw[q];simp);subst c;rw[ha]at p;cases p;exact absurd (show Value.type "list"=Value.type "module"from A.1) (by simp)),A⟩;have M:Mod K mg (rl s₁.heap H):=⟨B,i D,⟨mb,i hb,N⟩,let⟨X,h1,h2⟩:=S;⟨X,i h1,h2⟩,G Q⟩;have I:E7 P w K mg (rl s₁.heap H) callerA [] s₁ H:=⟨rfl,M,λb o e=>CC e,Nat.le_of_eq (tI _ _),trivial,λb hb=>absurd (show b∈([]:List Addr)from hb) (by simp),bV, .of_eq R, .inl rfl⟩;refine codeAny_mono ((F _ B (i D)).run callerA [] s₁ H ⟨[.ref a],[]⟩ [.ref a] [.ref a] _ _ hr I (O s₁ (.ref a)) (.cons rfl .nil) (U H C hS)) λr s' h=>?_;cases r with
   |error e=>exact(J H e s' h).elim
   |ok fl=>
    cases fl with
     |next=>exact False.elim h
     |brk=>exact False.elim h
     |cont=>exact False.elim h
     |ret u=>
      obtain⟨v,H',os,bare,un,T,r',q⟩:=h;have Z:v= .bl true:=q;subst Z;obtain rfl:u=Value.bool true:=r';refine⟨rfl,OldK.of_keep λb o e=>?_,os,bare⟩;cases q:H b with
       |none=>exact un.keep b o e q (by intro z;exact absurd (show b∈([]:List Addr)from z) (by simp)) (by simp)
       |some u=>
        rcases C b with z|⟨ob,xs,z⟩;·rw[q]at z;cases z
        ·have z2:=un.ma b ob _ z;obtain⟨g,_⟩:=bV b _ z;obtain⟨l,_⟩:=T b _ z2;rw[e]at g;cases g;exact l
 cases y:K.lookup a with
  |some o=>have e:=KX a o y;rw[ha]at e;cases e;refine core (λ_=>none) (λ_=> .inl rfl) (.inr ⟨_,vs.toArray,_,y,rfl,rfl,rfl,by rw[cw,W];exact hl,by simpa using E⟩) (λb u z=>by have f:(none:Option HO)=some u:=z;cases f) (λb z=>absurd rfl z) λz=>absurd rfl z
  |none=>
   refine core (λb=>if b=a then some (.yU {cls:= .type "list",data:= .seq vs.toArray} (.lst (ns.map V.int)))else none) (λb=>?_) (.inl (.inr ⟨{cls:= .type "list",data:= .seq vs.toArray},if_pos rfl⟩)) (λb u z=>?_) (λb z=>?_) λ_=>y
   ·by_cases hb:b=a;·exact .inr ⟨_,_,if_pos hb⟩
    ·exact .inl (if_neg hb)
   ·by_cases hb:b=a;·have f:=(if_pos hb).symm.trans z;cases f;subst hb;exact⟨ha,by rw[br];exact hl,vs,_,E,ha⟩
    ·have f:=(if_neg hb).symm.trans z;cases f
   ·by_cases hb:b=a;·exact hb
    ·exact absurd (if_neg hb) z
noncomputable abbrev KOf{K:PySem.W.Frag}{h:Heap}(_:K.In h):PySem.W.Frag:=K
theorem Kh{l:PySem.W.OpenLaw}{n k:Nat}{q:Program}{loose:List Str}{XP:(Str->Option Value)->Heap->Prop}{YP:World->Heap->Prop}{d:DefRec}{K:Params->PySem.W.Frag}{CX:World->wm}{sp:World->Sp}{x:Str}(hn:l.most=some n)(p:n<=sizeLine)(j:d.params.defaults=[])(hr:dQ k callerA)(i:∀(w:World)(h:Heap),YP w h->(K w.params).In h)(F:∀(w:World)(mg:Str->Option Value)(fa:Addr)(h:Heap),(K w.params).In h->h.Ns mainGlobals mg->mg d.name=some (.ref fa)->∃fd:FuncData,(∀(s:Shared)(u:Value),BindsTo s fd ⟨[u],[]⟩ [(x,u)])/\∀base:Heap,(K w.params).In base->base.Ns mainGlobals mg->sH l.prog w (K w.params) mg base (CX w) k fa fd [x] (sp w))(t:∀(w:World)(H:Hp)(a:Addr)(ns:List Int),ns.length<=n->Qq H->aZ (K w.params) H a (ns.map V.int)->sp w [.ref a] H (λv _=>v= .bl true) λ_ _ _=>False)(b:∀(w:World)(H:Hp)(s:Shared)(e:Value)(s':Shared),CX w callerA.handled [] H s (λ_ _ _=>False) e s'->False):PySem.W.WalkO q loose XP YP l.row.toRowW d [] (λf vs=>PySem.call f vs):=by refine Z0.yp hn j λw bU s₁ mg mb fa o pm cd doc a vs ns G Y ho hd y hmg r hints hlen m=>?_;have KX:=i w _ Y;obtain⟨fd,hb,c⟩:=F w mg fa _ KX G.T.g hmg;exact GY KX G.T.g G.T.b G.T.builtins G.T.nolimit G.T.bmain m r hints (cB hlen p) hr c hb (λH g hS=>t w H a ns hlen g hS) λH e s'=>b w H s₁ e s'
noncomputable def inClass(s:Stmt)(j:Nat):Stmt:=match s with| .ClassDef _ _ _ body _ _ _ _ _ _ _=>body.getD j (.Pass ⟨0,0,0,0⟩)|_=> .Pass ⟨0,0,0,0⟩
noncomputable def eD(s:Stmt):Arguments:=match s with| .FunctionDef _ a _ _ _ _ _ _ _ _=>a|_=>{posonlyargs:=[],args:=[],vararg:=none,kwonlyargs:=[],kw_defaults:=[],kwarg:=none,defaults:=[]}
noncomputable def cY(s:Stmt):List Stmt:=match s with| .FunctionDef _ _ b _ _ _ _ _ _ _=>b|_=>[]
noncomputable def aw(s:Stmt):Scope:=match s with| .FunctionDef _ _ _ _ _ _ sc _ _ _=>sc|_=>{kind:= .function,names:=[],isGenerator:=false,isCoroutine:=false}
noncomputable abbrev bJ:wm:=λ_ _ _ _ _ _ _=>False
noncomputable abbrev E0:XK:=λ_ _ _=>False
theorem aX{X:Cx}:Passes bJ X E0:=λ_ _ _ _ _ _ _ h=>h.elim
structure Lu(K:PySem.W.Frag)(x qual:Str)(st:Stmt)(f:Addr)(fd:FuncData):Prop where
 ex:∃(oc:Value)(od:Option Addr)(kV doc pm:Value)(an:Option Addr)(dh ct:Value)(Gi:Array (Option Value)),fd=PySem.W.fnOf x qual (eD st) (cY st) (aw st) .none kV doc pm an dh ct/\K.lookup f=some ⟨oc,od, .func fd,Gi⟩/\PySem.W.codeIn K dh qual=true
 kp:PySem.W.keepIn K (.ref f)=true
section
variable{P:Program}{w:World}{K:PySem.W.Frag}{mg:Str->Option Value}{base:Heap}
theorem Lu.ok{x qual:Str}{st:Stmt}{f:Addr}{fd:FuncData}{N ps:List Str}{k:Nat}{sp:Sp}(F:Lu K x qual st f fd)(S:aT N ps (aw st))(len:∀vs H Q E,sp vs H Q E->vs.length=ps.length)(a:∀(dh:Value)(A:Around)(outer:List Env)(s:Shared)(H:Hp)(vs:List V)(Q:VK)(E:XK),dQ k (A.deeper (envOfC qual (aw st) s.heap.objs.size f dh))->sp vs H Q E->∃t,kq (f9 bJ P w K mg base N qual (aw st) f dh A outer s H E).L6 (cY st) t/\t {nx:=λ_ H'=>Q .bz H',rt:=Q} (start N vs) H):sH P w K mg base bJ (k+1) f fd ps sp:=by obtain⟨oc,od,kV,doc,pm,an,dh,ct,Gi,rfl,d,b⟩:=F.ex;refine LP d b S len λA outer s H vs Q E hr c=>?_;obtain⟨t,h,q⟩:=a dh A outer s H vs Q E hr c;exact⟨t,h.L6,q⟩
theorem Lu.binds{x qual:Str}{st:Stmt}{f:Addr}{fd:FuncData}{ps:List Str}(F:Lu K x qual st f fd)(h:∀(kV doc pm:Value)(an:Option Addr)(dh ct:Value)(us:List Value),us.length=ps.length->bindArgs (PySem.W.fnOf x qual (eD st) (cY st) (aw st) .none kV doc pm an dh ct) ⟨us,[]⟩=pure (ps.zip us)):Binds K fd ps []:=by obtain⟨oc,od,kV,doc,pm,an,dh,ct,Gi,rfl,b,a⟩:=F.ex;exact .all (h kV doc pm an dh ct)
theorem G8{x qual:Str}{st:Stmt}{f:Addr}{oc:Value}{od an:Option Addr}{Gi:Array (Option Value)}{kV doc pm dh ct:Value}(l:K.lookup f=some ⟨oc,od, .func (PySem.W.fnOf x qual (eD st) (cY st) (aw st) .none kV doc pm an dh ct),Gi⟩)(c:PySem.W.codeIn K dh qual=true)(k:PySem.W.keepIn K (.ref f)=true):Lu K x qual st f (PySem.W.fnOf x qual (eD st) (cY st) (aw st) .none kV doc pm an dh ct):=⟨⟨oc,od,kV,doc,pm,an,dh,ct,Gi,rfl,l,c⟩,k⟩
end
theorem ql{A:Around}{k:Nat}(hr:dQ k A):A.units+1<cLine:=Nat.lt_of_le_of_lt (Nat.add_le_add_left (by decide:1<=64) _) hr.units
section
variable{X:Cx}
theorem pv(i:Nat){x:Str}{c:Pos}(a:X.N[i]?=some x:=by rfl)(hv:SM X.env.scope x:=by first|exact Or.inl rfl|exact Or.inr (Or.inl rfl)|exact Or.inr (Or.inr rfl))(hd:(x==("__debug__":Str))=false:=by decide)(b:(x==("__classdict__":Str))=false:=by decide):PE X (.Name x c) (mq i):=Oh a hv hd b
end
theorem cS{A B:Prop}(h:B):if false=true then A else B:=by rw[if_neg dA];exact h
theorem b9{A B:Prop}(h:A):if true=true then A else B:=by rw[if_pos rfl];exact h
theorem bD{c A B:Prop}[Decidable c](h1:c->A)(h2:¬c->B):if c then A else B:=by
 by_cases h:c;·rw[if_pos h];exact h1 h
 ·rw[if_neg h];exact h2 h
def aN(H H':Hp):Prop:=∀b o,H b=some o->H' b=some o
theorem aN.refl(H:Hp):aN H H:=λ_ _ h=>h
theorem aN.trans{H d e:Hp}(a:aN H d)(b:aN d e):aN H e:=λc o h=>b c o (a c o h)
theorem aN.free{H H':Hp}(e:aN H H'){l:Addr}(h:H' l=Option.none):H l=Option.none:=by cases q:H l with|none=>rfl|some o=>rw[e l o q]at h;cases h
section
variable{X:Cx}
end
section
variable{κ:Type}[DecidableEq κ]
theorem JS{kvs:List (κ×V)}{k:κ}{v:V}(h:dY kvs k=some v):k∈kvs.map (·.1):=by
 have q:(kvs.any λkv=>decide (kv.1=k))=true:=by rw[qy,h];all_goals rfl
 obtain⟨p,a,e⟩:=List.any_eq_true.mp q;exact List.mem_map.mpr ⟨p,a,of_decide_eq_true e⟩
end
end L2
end
section
namespace L3
open PySem PySem.Spec PyProof.Rows L2
noncomputable def cW(env:Env):List (Str×NameKind)->List (Str×Addr)->List (Str×Addr)|[],cs=>cs|(n,k)::r,cs=>cW env r (if(k== .free)=true then(n,(env.cells.lookup n).getD 0)::cs else cs)
theorem yV{env:Env}{scope:Scope}(h:∀x∈scope.names,x.2= .free->∃c,env.cells.lookup x.1=some c):closureFor scope env=pure (cW env scope.names []):=by
 unfold closureFor;have go:∀(l:List (Str×NameKind))(cs:List (Str×Addr)),(∀x∈l,x.2= .free->∃c,env.cells.lookup x.1=some c)->(forIn l cs λ(x:Str×NameKind)(r:List (Str×Addr))=>if(x.2== .free)=true then(do let a<-cellOf env x.1;pure (ForInStep.yield ((x.1,a)::r)))else pure (ForInStep.yield r):Sem (List (Str×Addr)))=pure (cW env l cs):=by
  intro l;induction l with
   |nil=>intro cs _;rfl
   |cons x l d=>
    intro cs hl;obtain⟨n,k⟩:=x;have hr:∀y∈l,y.2= .free->∃c,env.cells.lookup y.1=some c:=λy f=>hl y (dB _ f);rw[List.forIn_cons,cW];by_cases b:(k==NameKind.free)=true
    ·obtain⟨c,hc⟩:=hl (n,k) cT (by simpa using b);have hc:env.cells.lookup n=some c:=hc;have e:cellOf env n=pure c:=by unfold cellOf;rw[hc]
     simp only[b,if_true,e,pure_bind,hc,Option.getD_some];exact d _ hr
    ·simp only[b,if_false,pure_bind];exact d _ hr
 have q:=go scope.names [] h;simp only[bind_pure];exact q
theorem j3{env:Env}{x:Str}:∀(l:List (Str×NameKind))(cs:List (Str×Addr)),(∃c,cs.lookup x=some c)->∃c,(cW env l cs).lookup x=some c
 |[],_,h=>h
 |(n,k)::r,cs,h=>by
  rw[cW];refine j3 r _ ?_;by_cases a:(k==NameKind.free)=true;·rw[if_pos a,iO];cases x==n with|true=>exact⟨_,rfl⟩|false=>exact h
  ·rw[if_neg a];exact h
theorem gK{env:Env}{x:Str}:∀(l:List (Str×NameKind))(cs:List (Str×Addr)),(x,NameKind.free)∈l->∃c,(cW env l cs).lookup x=some c
 |[],_,h=>by cases h
 |(n,k)::r,cs,h=>by
  rw[cW];rcases List.mem_cons.mp h with e|h;·cases e;refine j3 r _ ?_;rw[if_pos (by decide),iO,beq_self_eq_true];exact⟨_,rfl⟩
  ·exact gK r _ h
theorem iD{env:Env}:∀(l:List (Str×NameKind))(cs:List (Str×Addr)),(∀x∈l,x.2= .free->∃c,env.cells.lookup x.1=some c)->(∀x c,cs.lookup x=some c->env.cells.lookup x=some c)->∀x c,(cW env l cs).lookup x=some c->env.cells.lookup x=some c
 |[],_,_,h=>h
 |(n,k)::r,cs,hl,h=>by
  rw[cW];refine iD r _ (λy g=>hl y (dB _ g)) λx c e=>?_;by_cases b:(k==NameKind.free)=true
  ·rw[if_pos b,iO]at e;cases d:x==n with
    |true=>
     rw[d]at e;obtain rfl:x=n:=by simpa using d
     obtain⟨f,a⟩:=hl (x,k) cT (by simpa using b);have a:env.cells.lookup x=some f:=a;rw[a]at e⊢;exact e
    |false=>rw[d]at e;exact h x c e
  ·rw[if_neg b]at e;exact h x c e
theorem i_{env:Env}:∀{l:List (Str×NameKind)}{x:Str},l.lookup x=some .free->(l.map λ(p:Str×NameKind)=>if(p.2==NameKind.free&&env.scope.kind== .function&&env.kindOf p.1==some .cell)then(p.1,NameKind.cell)else(p.1,p.2)).lookup x=some .cell\/(l.map λ(p:Str×NameKind)=>if(p.2==NameKind.free&&env.scope.kind== .function&&env.kindOf p.1==some .cell)then(p.1,NameKind.cell)else(p.1,p.2)).lookup x=some .free
 |[],_,h=>by simp at h
 |(n,k)::r,x,h=>by
  have b:=@i_ env r x;rw[iO]at h;rw[cF];by_cases hc:(k==NameKind.free&&env.scope.kind== .function&&env.kindOf n==some .cell)=true;·simp only[hc,if_true];rw[iO];cases a:x==n with|true=>exact .inl rfl|false=>rw[a]at h;exact b h
  ·simp only[hc,Bool.false_eq_true,if_false];rw[iO];cases a:x==n with|true=>rw[a]at h;exact .inr h|false=>rw[a]at h;exact b h
theorem rN{env:Env}:∀{l:List (Str×NameKind)}{x:Str},(∀y∈l,y.2≠ .cell)->((l.map λ(p:Str×NameKind)=>if(p.2==NameKind.free&&env.scope.kind== .function&&env.kindOf p.1==some .cell)then(p.1,NameKind.cell)else(p.1,p.2)).lookup x=some .cell\/(l.map λ(p:Str×NameKind)=>if(p.2==NameKind.free&&env.scope.kind== .function&&env.kindOf p.1==some .cell)then(p.1,NameKind.cell)else(p.1,p.2)).lookup x=some .free)->(x,NameKind.free)∈l
 |[],_,_,h=>by simp at h
 |(n,k)::r,x,hl,h=>by
  have b:=@rN env r x λy c=>hl y (dB _ c);rw[cF]at h;by_cases hc:(k==NameKind.free&&env.scope.kind== .function&&env.kindOf n==some .cell)=true
  ·simp only[hc,if_true]at h;rw[iO]at h;cases a:x==n with
    |true=>
     obtain rfl:x=n:=by simpa using a
     have :k= .free:=by simp only[bE]at hc;simpa using hc.1.1
     rw[this];exact cT
    |false=>rw[a]at h;exact dB _ (b h)
  ·simp only[hc,Bool.false_eq_true,if_false]at h;rw[iO]at h;cases a:x==n with
    |true=>
     rw[a]at h;obtain rfl:x=n:=by simpa using a
     rcases h with h|h;·exact absurd (Option.some.inj h) (hl (x,k) cT)
     ·have :k= .free:=Option.some.inj h;rw[this];exact cT
    |false=>rw[a]at h;exact dB _ (b h)
noncomputable abbrev Hg(X:Cx)(scope:Scope)(C:Addr):Env:=compEnvC scope (cW X.env scope.names []) C X.env
noncomputable abbrev gC(X:Cx)(N':List Str)(scope:Scope)(a:Shared)(b:Hp)(fp:List Addr):Cx:={X with N:=N',bU:=a,H₀:=b,env:=Hg X scope a.heap.objs.size,outer:=X.stack,stack:=X.stack,ex:=fp,fn:=λ_=>false,pn:=X.pn,xe:=λ_ _=>False}
noncomputable def iF(own:Nat)(fr:List Nat)(σ:L2.St):L2.St:=List.replicate own none++fr.map λi=>(σ[i]?).join
structure qF(X:Cx)(N':List Str)(own:Nat)(fr:List Nat)(scope:Scope):Prop where
 kind:scope.kind= .function
 zm:∀y∈scope.names,y.2≠ .cell
 loc:∀x∈scope.names,x.2= .local->scope.names.lookup x.1=some .local
 free:∀x∈scope.names,x.2= .free->X.env.kindOf x.1=some .cell\/X.env.kindOf x.1=some .free
 len:N'.length=own+fr.length
 fr:∀j i,fr[j]?=some i->∃x,N'[own+j]?=some x/\X.N[i]?=some x/\scope.names.lookup x=some .free
theorem za{fs ex:List Addr}{H H':Hp}{h h1 h2:Heap}{C:Addr}(u:Un fs ex H H' h h1)(d:h.objs.size<=C)(c:Heap.SameBut C h1 h2):Un fs ex H H' h h2:=by
 have ne:∀b o,h.get? b=some o->b≠C:=λb o e=>zQ23 (eB (zQ07 e) d);refine⟨λb o e n hb a=>(c.2 b (ne b o e)).trans (u.keep b o e n hb a),λb o e n hb a=>?_,u.free,λb o e a=>?_,u.rd,u.ma,u.qB⟩;·obtain⟨sl,q⟩:=u.slot b o e n hb a;exact⟨sl,(c.2 b (ne b o e)).trans q⟩
 ·obtain⟨o',q⟩:=u.there b o e a;exact⟨o',(c.2 b (ne b o e)).trans q⟩
theorem xg{P:Program}{w:World}{H:Hp}{h h2:Heap}{C:Addr}(k:gJ P w H h)(a:H C=none)(d:Heap.SameBut C h h2):gJ P w H h2:=λb ob e=>by
 refine(k b ob e).sL (λc f hc q=>(d.2 c ?_).trans q) (λ_ q=>q) λ_ _ q=>q;rintro rfl;rcases hc with rfl|hc;·rw[a]at e;cases e
 ·rw[a]at hc;cases hc
noncomputable def Cy(Y:Cx)(a:List Expr)(b:TT):Prop:=∀(pins:List (Addr×Obj))(s:Shared)(σ:L2.St)(H:Hp)(Q:Bool->Hp->Prop),Inv Y pins σ H s->b σ H Q->wpAny (model Y.prog Y.w) Y.A (forIn a true λc r=>if r=true then do let ok<-isTrue c Y.env (eval c Y.env);pure (ForInStep.yield ok)else pure (ForInStep.yield r)) (TP Y pins σ Q) Y.xe s
noncomputable def N2:TT:=λ_ H Q=>Q true H
theorem ik{Y:Cx}:Cy Y [] N2:=λ_ _ _ H _ I h=>wpAny_tests_nil ⟨H,I,h⟩
theorem JT{Y:Cx}{c:Expr}{t:TT}(h:PT Y c t):Cy Y [c] t:=λpins s σ H Q I hq=>wpAny_tests_one (h pins s σ H Q I hq)
section
variable{prog:Program}{w:World}{A:Around}{R:Result->Shared->Prop}{s:Shared}
theorem wF{b target iter:Expr}{d:List Expr}{scope:Scope}{j:Pos}{it a:Value}{env:Env}(J:Nat->Shared->Prop)(turn:∀n s,J n s->wpAny (model prog w) A (pyNext it) (λr s₁=>match r with|none=>R (.ok .next) s₁|some v=>wpAny (model prog w) A (letOwnedTupleGo target it v) (λ_ bU=>wpAny (model prog w) A (assign target env v) (λ_ s₂=>wpAny (model prog w) A (forIn d true λc r=>if r=true then do let ok<-isTrue c env (eval c env);pure (ForInStep.yield ok)else pure (ForInStep.yield r)) (λok e=>if ok=true then wpAny (model prog w) A (eval b env) (λx k=>wpAny (model prog w) A (call (.builtin "list.append") [a,x]) (λ_ l=>∃m,m<n/\J m l) (λ_ _=>False) k) (λ_ _=>False) e else∃m,m<n/\J m e) (λ_ _=>False) s₂) (λ_ _=>False) bU) (λ_ _=>False) s₁) (λ_ _=>False) s)(n:Nat)(h:J n s):codeAny (model prog w) A (.compLoop (.ListComp b [⟨target,iter,d,0⟩] scope j) 0 it a env) R s:=by refine codeAny_loop rfl J (λn s t=>?_) n h;show wpAny _ A ((compTurn (.ListComp b [⟨target,iter,d,0⟩] scope j) 0 it a env).onRaise (λx=>do noteFrame x env;theTreesLotGoes x)) _ _ s;refine wpAny_noted ?_;rw[compTurn_list];have no:∀{o:Type}{m:Sem o}{Q:o->Shared->Prop}{p:Value->Shared->Prop}{s':Shared},wpAny (model prog w) A m Q (λ_ _=>False) s'->wpAny (model prog w) A m Q p s':=λhm=>wpAny_mono hm (λ_ _ q=>q) λ_ _ f=>f.elim;refine zQ00 (wpAny_standAt (zQ00 (no (wpAny_mono (turn n s t) (λr s₁ g=>?_) λ_ _ h'=>h'))));cases r with|none=>exact zQ02 g|some v=>refine zQ00 (no (wpAny_mono g (λ_ bU h₀=>zQ00 (no (wpAny_mono h₀ (λ_ s₂ u=>zQ00 (no (wpAny_mono u (λok e i=>?_) λ_ _ h'=>h'))) λ_ _ h'=>h'))) λ_ _ h'=>h'));cases ok with|false=>exact zQ02 ⟨rfl,i⟩|true=>exact zQ00 (zQ00 (no (wpAny_mono i (λx k y=>zQ00 (no (wpAny_mono y (λ_ l z=>zQ02 (zQ02 ⟨rfl,z⟩)) λ_ _ h'=>h'))) λ_ _ h'=>h')))
end
def Own(own:Nat)(g:TG):Prop:=∀v σ H Q,g v σ H Q->g v σ H λa b=>Q a b/\a.length=σ.length/\∀i,own<=i->a[i]?=σ[i]?
theorem eI{own i:Nat}(h:i<own):Own own (sZ i):=λv σ H Q q=>⟨q,by simp,λj hj=>List.getElem?_set_ne (by lia)⟩
noncomputable def Uv(own:Nat)(fr:List Nat)(o:TI)(g:TG)(n:TT)(l:TE):TE:=λσ H Q=>o σ H λJ d=>∀p,d p=none->∃W:Nat->Nat->List V->Hp->Prop,(∃m,W 0 m [] (upd d p (.lst [])))/\∀i m a b,W i m a b->(J.stop i b/\Q (.ref p) b)\/(J.go i b/\∀x e,J.DH i b x e->g x (iF own fr σ) e λj k=>n j k λok f=>if ok=true then l j f λv h=>h p=some (.lst a)/\a.length<sizeLine/\∃c,c<m/\W (i+1) c (a++[v]) (upd h p (.lst (a++[v])))else∃c,c<m/\W (i+1) c a f)
theorem IF{X:Cx}{scope:Scope}{N':List Str}{own:Nat}{fr:List Nat}{pins:List (Addr×Obj)}{σ:L2.St}{f:Hp}{d:Shared}{h4:Heap}{fp:List Addr}{t4:Nat}{m:Str->Option Value}(S:qF X N' own fr scope)(a:Inv X pins σ f d)(g:∀b∈fp,mm X pins f b/\b<d.heap.objs.size)(keep:∀b o,d.heap.get? b=some o->h4.get? b=some o)(F:h4.Ns d.heap.objs.size m):Inv (gC X N' scope d f fp) [] (iF own fr σ) f {d with heap:=h4,toks:=t4}:=by
 have D:∀x∈scope.names,x.2= .free->∃c,X.env.cells.lookup x.1=some c:=λx s e=>a.ok.has x.1 (S.free x s e);have snd:∀x c,(cW X.env scope.names []).lookup x=some c->X.env.cells.lookup x=some c:=iD _ _ D λx c e=>by simp at e
 have ok:(gC X N' scope d f fp).Ok:=by
  refine⟨a.ok.mod,S.kind,a.ok.glob,a.ok.blt,zQ04 _,λx y c h l=>a.ok.inj x y c (snd x c h) (snd y c l),λx s=>gK _ _ (rN S.zm s),λx c z=>(by cases z),a.ok.hd,a.ok.frames, .inl rfl,λb hb=>⟨zQ23 (g b hb).2,λx c e=>(g b hb).1.2.2.2.2.1 x c (snd x c e)⟩,a.bs,cB a.ok.D3 a.sz,λb o e hb=>?_,λb hb H=>?_,a.stack,a.uI⟩
  ·rcases(g b hb).1.2.2.2.1 with z|z;·exact a.ok.xI b o e z
   ·exact absurd (eB (zQ07 e) a.ok.D3) (Nat.not_lt.mpr z)
  ·rcases List.mem_cons.mp (a.gY b H)with z|z;·exact(g b hb).1.2.1 z
   ·exact(g b hb).1.2.2.1 z
 refine⟨ok,rfl,a.bare,Un.kept keep,⟨m,F,λi x v h1 h2 h3=>?_⟩,λx c e=>?_,a.bV.fresh (zQ04 _),λx c e=>a.d7 x c (snd x c e),λp G=>?_,a.bV.kept keep,?_⟩
 ·have h1:N'[i]?=some x:=h1;have hi:¬i<own:=λz=>by unfold iF at h2;rw[List.getElem?_append_left (by simpa using z),List.getElem?_replicate]at h2;split at h2<;>cases h2
  obtain⟨j,rfl⟩:∃j,i=own+j:=⟨i-own,by lia⟩;unfold iF at h2;rw[List.getElem?_append_right (by simp),List.length_replicate,Nat.add_sub_cancel_left,fi]at h2;cases n:fr[j]? with
   |none=>rw[n]at h2;cases h2
   |some k=>
    rw[n]at h2;have h2:(σ[k]?).join=some v:=Option.some.inj h2;have I:σ[k]?=some (some v):=by cases q:σ[k]? with|none=>rw[q]at h2;cases h2|some M=>rw[q]at h2;exact congrArg some h2
    obtain⟨N,h,l,A⟩:=S.fr j k n;rw[h1]at h;cases h;have mem:=PySem.mem_of_lookup A;have B:=S.free _ mem rfl;obtain⟨L,K,E⟩:=a.loc;obtain⟨u,r,look⟩:=E k x v l I (.inr B);rcases look with⟨q,_⟩|⟨q,c,hc,o,ho,hd⟩
    ·rcases B with z|z;·have z:X.env.kindOf x=some .cell:=z;rw[z]at q;cases q
     ·have z:X.env.kindOf x=some .free:=z;rw[z]at q;cases q
    ·obtain⟨C,t⟩:=gK (env:=X.env) scope.names [] mem;have w:=snd x C t;rw[hc]at w;cases w;exact⟨u,r, .inr ⟨i_ A,c,t,o,keep _ _ ho,hd⟩⟩
 ·obtain⟨v,o,ho,hd⟩:=a.cell x c (snd x c e);exact⟨v,o,keep _ _ ho,hd⟩
 ·obtain⟨q1,q2,q3,q4,J⟩:=a.pin p (sD _ (by simpa using G));refine⟨keep _ _ q1,q2,zQ23 (zQ07 q1),λz=>?_,J⟩;rcases List.mem_cons.mp (a.gY _ z)with z|z;·exact q3 z
  ·exact q4 z
 ·show(iF own fr σ).length=N'.length;unfold iF;rw[S.len,cE,List.length_replicate,br]
theorem gf{X:Cx}{tg iter G:Expr}{O:List Expr}{scope:Scope}{pos:Pos}{wi:TI}{g:TG}{tt:TT}{te:TE}{N':List Str}{own:Nat}{fr:List Nat}(hc:X.calm=true)(S:qF X N' own fr scope)(hi:PI X tg iter wi)(ho:Own own g)(hg:∀A w fp,PG (gC X N' scope A w fp) tg g)(hf:∀A w fp,Cy (gC X N' scope A w fp) O tt)(he:∀A w fp,PE (gC X N' scope A w fp) G te)(hs:∀x,foldedSetIterable iter X.env x=pure x:=by intro _;rfl):PE X (.ListComp G [⟨tg,iter,O,0⟩] scope pos) (Uv own fr wi g tt te):=by
 intro pins s σ H Q I h;have My:∀x∈scope.names,x.2= .free->∃c,X.env.cells.lookup x.1=some c:=λx hx e=>I.ok.has x.1 (S.free x hx e);rw[eval_ListComp];refine wpAny_comprehension_free (use:=none) rfl hs (yV My) S.kind S.loc ?_;refine bL (hi pins s σ H _ I h) λv s1 h1=>bL h1 λZH s2 h2=>?_;obtain⟨it,fp,tn,J,d,e,I2,T,WI,f2,h2⟩:=h2;subst e;refine iW (hd:=by size_fits) (wpAny_newFunctionEnv S.zm (by intro y hy;simp at hy) (λh4 M N=>?_) S.kind);have DW:=I2.bV.fresh (zQ04 s2.heap.objs.size);obtain⟨W,⟨m0,w0⟩,turn⟩:=h2 _ DW;have C:Inv X pins σ (upd d s2.heap.objs.size (.lst [])) {s2 with heap:=s2.heap.push {cls:= .type "list",dict:=none,data:= .seq ([]:List Value).toArray},toks:=s2.toks}:=I2.Sm .nil (zQ27 _);have lt2:∀b∈fp,b<s2.heap.objs.size:=λb hb=>let⟨o,e,_⟩:=T.obj _ _ WI b hb;zQ07 e;have up2:∀b o,s2.heap.get? b=some o->∀ob:Obj,(s2.heap.push ob).get? b=some o:=λb o e ob=>zQ01 _ e;have sz3:(s2.heap.push {cls:= .type "list",dict:=none,data:= .seq ([]:List Value).toArray}).objs.size=s2.heap.objs.size+1:=zQ28 ..;revert M N C;generalize e3:s2.heap.push {cls:= .type "list",dict:=none,data:= .seq ([]:List Value).toArray}=h3 at sz3⊢;intro M N C;have keep:∀b o,h3.get? b=some o->h4.get? b=some o:=λb o e=>(N.2 b (zQ23 (zQ07 e))).trans (zQ01 _ e);have K:∀b∈fp,mm X pins (upd d s2.heap.objs.size (.lst [])) b/\b<h3.objs.size:=λb hb=>by refine⟨⟨?_,(f2 b hb).2⟩,by rw[sz3];exact Nat.lt_succ_of_lt (lt2 b hb)⟩;rw[bb (zQ23 (lt2 b hb))];exact(f2 b hb).1
 have D:=IF (t4:=s2.toks+([]:List (Str×Value)).length) S C K keep M;have V:tn 0 h4:=T.keep _ _ _ WI λb hb o e=>keep b o (by rw[<-e3];exact up2 b o e _);have U:∀{H':Hp},(∀b∈fp,H' b=none)->∀b∈fp,mm (gC X N' scope {s2 with heap:=h3,toks:=s2.toks} (upd d s2.heap.objs.size (.lst [])) fp) [] H' b:=λ{H'}hn b hb=>⟨hn b hb,zQ23 (K b hb).2,λz=>D.ok.Du b hb z, .inl hb,(D.ok.Wk b hb).2,λp hp=>(f2 b hb).2.2.2.2.2 p (sD _ (by simpa using hp))⟩;have loop:∀E:Shared,Inv (gC X N' scope {s2 with heap:=h3,toks:=s2.toks} (upd d s2.heap.objs.size (.lst [])) fp) [] (iF own fr σ) (upd d s2.heap.objs.size (.lst [])) E->tn 0 E.heap->codeAny (model X.prog X.w) X.A (.compLoop (.ListComp G [⟨tg,iter,O,0⟩] scope pos) 0 (.ref it) (.ref s2.heap.objs.size) (Hg X scope h3.objs.size)) (compPost (model X.prog X.w) X.A X.xe none (EP X pins σ Q) (.ref s2.heap.objs.size) h3.objs.size) E:=by
  intro E Ix tx;refine wF (λn s'=>∃i l H',Inv (gC X N' scope {s2 with heap:=h3,toks:=s2.toks} (upd d s2.heap.objs.size (.lst [])) fp) [] (iF own fr σ) H' s'/\tn i s'.heap/\(∀b∈fp,H' b=none)/\W i n l H') ?_ m0 ⟨0,[],_,Ix,tx,λb hb=>(K b hb).1.1,w0⟩;rintro n s5⟨i,l,B,I5,QY,WZ,w5⟩;rcases turn i n l B w5 with⟨stop,qn⟩|⟨go,step⟩;·refine bL (T.done (gC X N' scope {s2 with heap:=h3,toks:=s2.toks} (upd d s2.heap.objs.size (.lst [])) fp) rfl rfl rfl hc i [] s5 _ B (λ_ _=>False) I5 (U WZ) QY stop) λr s6 a=>?_;obtain⟨hr,m⟩:=a;subst hr;obtain⟨m6,hm6,_⟩:=id m.loc;refine⟨m6,hm6,λh7 ZU=>⟨.ref s2.heap.objs.size,B,?_,rfl,qn⟩⟩;exact C.Lw (s':={s6 with heap:=h7}) (ch:=fp) m.os (za m.base (zQ04 _) ZU) (xg m.bV m.free ZU) m.bare λb hb=>⟨(f2 b hb).2.2.2.1,(f2 b hb).2.1,(f2 b hb).2.2.2.2.1,(f2 b hb).2.2.2.2.2⟩
  ·refine bL (T.item (gC X N' scope {s2 with heap:=h3,toks:=s2.toks} (upd d s2.heap.objs.size (.lst [])) fp) rfl rfl rfl hc i [] s5 _ B (λ_ _=>False) I5 (U WZ) QY go) λr s6 a=>?_;obtain⟨u,hr,h6⟩:=a;subst hr;refine bL h6 λ_ s7 a=>?_;obtain⟨x,Z,I7,r7,y7,R,fr7⟩:=a;have I7':=I7.pinned (U fr7) (T.obj _ _ R);refine bL (hg _ _ _ _ s7 _ Z x u _ I7' r7 (ho _ _ _ _ (step x Z y7))) λ_ s8 a=>?_;obtain⟨F,H8,I8,q8,l8,k8⟩:=a;have again:∀{k:Hp}{t:Shared},Inv (gC X N' scope {s2 with heap:=h3,toks:=s2.toks} (upd d s2.heap.objs.size (.lst [])) fp) ([]++qZ fp s7.heap) F k t->Inv (gC X N' scope {s2 with heap:=h3,toks:=s2.toks} (upd d s2.heap.objs.size (.lst [])) fp) [] (iF own fr σ) k t/\tn (i+1) t.heap/\∀b∈fp,k b=none:=λ{k t}q=>by
    refine⟨q.jO.weak l8.symm λj v e=>?_,T.keep _ _ _ R λb hb o e=>(q.pin (b,o) (kA _ (kA _ (gk hb e)))).1,λb hb=>?_⟩
    ·have hj:own<=j:=by refine Nat.le_of_not_lt λz=>?_;unfold iF at e;rw[List.getElem?_append_left (by simpa using z),List.getElem?_replicate]at e;split at e<;>cases e
     rw[k8 j hj];exact e
    ·obtain⟨o,e,_⟩:=T.obj _ _ R b hb;exact(q.pin (b,o) (kA _ (kA _ (gk hb e)))).2.1
   refine bL (hf _ _ _ _ s8 F H8 _ I8 q8) λok t a=>?_;obtain⟨k,q,q9⟩:=a;cases ok with|false=>obtain⟨P,L,w9⟩:=q9;obtain⟨a1,a2,a3⟩:=again q;exact⟨P,L,i+1,l,k,a1,a2,a3,w9⟩|true=>refine bL (he _ _ _ _ t F k _ q q9) λy OB a=>?_;obtain⟨v,Y,I10,QW,Yn,Zt,P,L,w10⟩:=a;refine bL (cJ _ OB F Y (.ref s2.heap.objs.size) [v] (.ref s2.heap.objs.size) [y] (λ_ Hn=>Hn=upd Y s2.heap.objs.size (.lst (l++[v]))) I10 rfl (.cons QW .nil) ⟨_,l,v,rfl,rfl,Yn,Zt,rfl⟩) λ_ OW a=>?_;obtain⟨_,RV,I11,_,e11⟩:=a;subst e11;obtain⟨a1,a2,a3⟩:=again I11;exact⟨P,L,i+1,l++[v],_,a1,a2,a3,w10⟩
 exact codeAny_compStart_list (loop _ D V) (wpAny_mono (T.self X.A 0 _ (λv s'=>v= .ref it/\s'=_) (λ_ _=>False) V ⟨rfl,rfl⟩) (λv s'⟨e1,e2⟩=>by subst e1;subst e2;exact loop _ D V) λ_ _ f=>f.elim)
def Nx(n i:Nat)(P:Prop):Prop:=∃a,a<n-i/\a=n-(i+1)/\i+1<=n/\P
theorem nx{n i:Nat}{P:Prop}(h:i<n)(p:P):Nx n i P:=⟨n-(i+1),by lia,rfl,h,p⟩
theorem Br{J:It}{p:Addr}{l:Hp}{g:TG}{q:TT}{o:TE}{b:L2.St}{Q:VK}(n:Nat)(Pv:Nat->List V->Hp->Prop)(r:Pv 0 [] (upd l p (.lst [])))(s:∀i a c,i<n->Pv i a c->J.go i c/\∀x d,J.DH i c x d->g x b d λj k=>q j k λok e=>if ok=true then o j e λv f=>f p=some (.lst a)/\a.length<sizeLine/\Nx n i (Pv (i+1) (a++[v]) (upd f p (.lst (a++[v]))))else Nx n i (Pv (i+1) a e))(hd:∀a c,Pv n a c->J.stop n c/\Q (.ref p) c):∃W:Nat->Nat->List V->Hp->Prop,(∃m,W 0 m [] (upd l p (.lst [])))/\∀i m a c,W i m a c->(J.stop i c/\Q (.ref p) c)\/(J.go i c/\∀x d,J.DH i c x d->g x b d λj k=>q j k λok e=>if ok=true then o j e λv f=>f p=some (.lst a)/\a.length<sizeLine/\∃h,h<m/\W (i+1) h (a++[v]) (upd f p (.lst (a++[v])))else∃h,h<m/\W (i+1) h a e):=by
 refine⟨λi m a H=>m=n-i/\i<=n/\Pv i a H,⟨n,by simp,zQ27 _,r⟩,?_⟩;rintro i m a c⟨rfl,hi,w⟩;by_cases hlt:i<n;·exact .inr (s i a c hlt w)
 ·obtain rfl:i=n:=by lia
  exact .inl (hd a c w)
end L3
end
section
namespace L3
open PySem L2
section
variable{prog:Program}{w:World}{A:Around}{E:Value->Shared->Prop}{s:Shared}
end
structure j9(z TI TO i1 i2:Nat)(f1 f2:List Nat):Prop where
 TIz:TI≠z
 TOz:TO≠z
 TITO:TI≠TO
 TI1:TI≠i1
 TI2:TI≠i2
 TO1:TO≠i1
 TO2:TO≠i2
 i1z:i1≠z
 i2z:i2≠z
 Zq:z∉f1
 zf2:z∉f2
 ZR:TO∉f1
 Tf2:TO∉f2
 Y_:i2∉f1
 Y5:i1∉f2
section
variable{prog:Program}{w:World}{A:Around}{E:Value->Shared->Prop}{s:Shared}
variable{z TI TO i1 i2:Addr}{f1 f2:List Addr}{n1 n2:Nat}{P1 P2:Nat->Value->Prop}{S1 S2:Nat->Heap->Prop}
theorem Dq{i:Nat}{a b:Value}{Q:Value->Shared->Prop}(D1:Draws prog w A i1 f1 n1 P1 S1)(H:Draws prog w A i2 f2 n2 P2 S2)(d:j9 z TI TO i1 i2 f1 f2)(r:IsZip s.heap z TI TO .none)(V:IsPair s.heap TI (.ref i1) (.ref i2))(W:IsPair s.heap TO a b)(s1:S1 i s.heap)(s2:S2 i s.heap)(l1:i<n1)(l2:i<n2)(X:∀x y h' tk,P1 i x->P2 i y->IsZip h' z TI TO (rawInt s.heap.objs.size)->IsPair h' TO x y->S1 (i+1) h'->S2 (i+1) h'->IsPair h' s.heap.objs.size x y->(∀c o,c≠z->c≠TO->c≠i1->c≠i2->s.heap.get? c=some o->h'.get? c=some o)->Q (.ref s.heap.objs.size) {s with heap:=h',toks:=tk}):wpAny (model prog w) A (Builtin.«zip.__next__» ⟨[.ref z],[]⟩) (λfin s'=>∃v,fin= .done (.ret v)/\Q v s') E s:=by
 have u:∀{k:Nat}{h h':Heap}{c:Addr},c∉f1->Heap.SameBut c h h'->S1 k h->S1 k h':=λ{k h h' c}hc sb st=>D1.frame _ _ _ st λq hq o e=>(sb.2 q λz=>hc (z▸hq)).trans e;have B:∀{k:Nat}{h h':Heap}{c:Addr},c∉f2->Heap.SameBut c h h'->S2 k h->S2 k h':=λ{k h h' c}hc sb st=>H.frame _ _ _ st λq hq o e=>(sb.2 q λz=>hc (z▸hq)).trans e;show wpAny (model prog w) _ (field (.ref z) 2>>=_) _ _ _;refine zQ00 (c9 r rfl (x:= .bool false) rfl ?_);show wpAny (model prog w) _ (field (.ref z) 3>>=_) _ _ _;refine zQ00 (c9 r rfl (x:= .ref TI) rfl ?_);refine zQ00 (wpAny_seqItems V rfl ?_);show wpAny (model prog w) _ (Builtin.SmallTypes.ownedTupleIsFree (.ref z)>>=_) _ _ _;refine zQ00 ?_;unfold Builtin.SmallTypes.ownedTupleIsFree;refine zQ00 (c9 r rfl (x:= .none) rfl (zQ02 ?_));simp only[if_true];refine zQ00 (wpAny_rule ?_);refine zQ00 (c9 r rfl (x:= .ref TO) rfl ?_);refine zQ00 (wpAny_setField_rec r (by simp) λk1 L j=>?_);replace L:IsZip k1 z TI TO .ellipsis:=L;refine zQ00 ?_;simp only[List.zipIdx_cons,List.zipIdx_nil,List.forIn_cons,List.forIn_nil];refine zQ00 (zQ00 (wpAny_onRaise ?_));show wpAny (model prog w) _ (Builtin.SmallTypes.nextOf (.ref i1)>>=_) _ _ _;refine zQ00 (D1.item i _ _ _ l1 (u d.Zq j s1) λx k2 t2 px q2 l=>zQ02 ?_);have R:IsPair k2 TO a b:=l.extBut _ _ d.TO1 (j.extBut _ _ d.TOz W);refine zQ00 (wpAny_seqItems R rfl ?_);refine zQ00 (wpAny_updateSeq_pair R λY K m=>?_);replace K:IsPair Y TO x b:=K;refine zQ00 (wpAny_letGo (zQ02 ?_));refine zQ00 (zQ00 (wpAny_onRaise ?_));show wpAny (model prog w) _ (Builtin.SmallTypes.nextOf (.ref i2)>>=_) _ _ _;refine zQ00 (H.item i _ _ _ l2 (B d.Tf2 m (B d.Y5 l (B d.zf2 j s2))) λy Z t4 py q4 n=>zQ02 ?_);have S:IsPair Z TO x b:=n.extBut _ _ d.TO2 K;refine zQ00 (wpAny_seqItems S rfl ?_);refine zQ00 (wpAny_updateSeq_pair S λf D p=>?_);replace D:IsPair f TO x y:=D;refine zQ00 (wpAny_letGo (zQ02 (zQ02 ?_)));refine zQ00 (wpAny_seqItems D rfl ?_);refine zQ00 (wpAny_newTuple ?_);have sz:f.objs.size=s.heap.objs.size:=by rw[p.1,n.1,m.1,l.1,j.1]
 have U:IsZip f z TI TO .ellipsis:=p.extBut _ _ d.TOz.symm (n.extBut _ _ d.i2z.symm (m.extBut _ _ d.TOz.symm (l.extBut _ _ d.i1z.symm L)));have kp:∀c o,c≠z->c≠TO->c≠i1->c≠i2->s.heap.get? c=some o->f.get? c=some o:=λc o g t I J e=>p.extBut _ _ t (n.extBut _ _ J (m.extBut _ _ t (l.extBut _ _ I (j.extBut _ _ g e))));have q1':S1 (i+1) f:=u d.ZR p (u d.Y_ n (u d.ZR m q2));have q2':S2 (i+1) f:=B d.Tf2 p q4;have P:z<f.objs.size:=zQ07 U;show wpAny (model prog w) _ (Builtin.SmallTypes.ownedTupleHandOut (.ref z) (.ref f.objs.size)>>=_) _ _ _;refine zQ00 ?_;unfold Builtin.SmallTypes.ownedTupleHandOut;have z6:IsZip (f.push {cls:= .type "tuple",data:= .seq #[x,y]}) z TI TO .ellipsis:=zQ01 _ U;refine zQ00 (wpAny_setField_rec z6 (by simp) λk7 M N=>?_);replace M:IsZip k7 z TI TO (rawInt f.objs.size):=M;refine wpAny_setField_rec M (by simp) λC G O=>?_;replace G:IsZip C z TI TO (rawInt f.objs.size):=G;have F:∀c o,c≠z->f.get? c=some o->C.get? c=some o:=λc o g e=>O.extBut _ _ g (N.extBut _ _ g (zQ01 _ e));have T:IsPair C f.objs.size x y:=O.extBut _ _ (Nat.ne_of_gt P) (N.extBut _ _ (Nat.ne_of_gt P) (zQ11 _ rfl));rw[sz]at G T;refine zQ02 ⟨_,rfl,?_⟩;show Q (.ref f.objs.size) _;rw[sz];exact X x y C _ px py G (F _ _ d.TOz D) (D1.frame _ _ _ q1' λq hq o e=>F q o (λz=>d.Zq (z▸hq)) e) (H.frame _ _ _ q2' λq hq o e=>F q o (λz=>d.zf2 (z▸hq)) e) T λc o g t I J e=>F c o g (kp c o g t I J e)
theorem Di{a b:Value}{Q:Fin->Shared->Prop}(D1:Draws prog w A i1 f1 n1 P1 S1)(h:j9 z TI TO i1 i2 f1 f2)(d:IsZip s.heap z TI TO .none)(r:IsPair s.heap TI (.ref i1) (.ref i2))(B:IsPair s.heap TO a b)(s1:S1 n1 s.heap)(t:∀h' e,(∀c o,c≠z->c≠TO->c≠i1->c≠i2->s.heap.get? c=some o->h'.get? c=some o)->(∃o,h'.get? e=some o/\o.cls= .type "StopIteration")->E (.ref e) {s with heap:=h'}):wpAny (model prog w) A (Builtin.«zip.__next__» ⟨[.ref z],[]⟩) Q E s:=by
 show wpAny (model prog w) _ (field (.ref z) 2>>=_) _ _ _;refine zQ00 (c9 d rfl (x:= .bool false) rfl ?_);show wpAny (model prog w) _ (field (.ref z) 3>>=_) _ _ _;refine zQ00 (c9 d rfl (x:= .ref TI) rfl ?_);refine zQ00 (wpAny_seqItems r rfl ?_);show wpAny (model prog w) _ (Builtin.SmallTypes.ownedTupleIsFree (.ref z)>>=_) _ _ _;refine zQ00 ?_;unfold Builtin.SmallTypes.ownedTupleIsFree;refine zQ00 (c9 d rfl (x:= .none) rfl (zQ02 ?_));simp only[if_true];refine zQ00 (wpAny_rule ?_);refine zQ00 (c9 d rfl (x:= .ref TO) rfl ?_);refine zQ00 (wpAny_setField_rec d (by simp) λk1 g i=>?_);replace g:IsZip k1 z TI TO .ellipsis:=g;refine zQ00 ?_;simp only[List.zipIdx_cons,List.zipIdx_nil,List.forIn_cons,List.forIn_nil];refine zQ00 (zQ00 (wpAny_onRaise ?_));show wpAny (model prog w) _ (Builtin.SmallTypes.nextOf (.ref i1)>>=_) _ _ _;refine zQ00 (D1.done _ _ _ (D1.frame _ _ _ s1 λq hq o e=>(i.2 q λy=>h.Zq (y▸hq)).trans e) λk2 e j he=>?_);obtain⟨oe,f,m⟩:=he;have n:IsZip k2 z TI TO .ellipsis:=j _ _ h.i1z.symm g;have v:e≠z:=λq=>by subst q;rw[n]at f;cases f;simp at m
 refine wpAny_setField_rec n (by simp) λu _ k=>t u e (λc o l _ p _ q=>k.extBut _ _ l (j _ _ p (i.extBut _ _ l q))) ⟨oe,k.extBut _ _ v f,m⟩
theorem Dg{i:Nat}{a b:Value}{Q:Option Value->Shared->Prop}(D1:Draws prog w A.in1 i1 f1 n1 P1 S1)(e:Draws prog w A.in1 i2 f2 n2 P2 S2)(f:j9 z TI TO i1 i2 f1 f2)(d:IsZip s.heap z TI TO .none)(g:IsPair s.heap TI (.ref i1) (.ref i2))(h:IsPair s.heap TO a b)(s1:S1 i s.heap)(s2:S2 i s.heap)(l1:i<n1)(l2:i<n2)(j:∀x y h' tk,P1 i x->P2 i y->IsZip h' z TI TO (rawInt s.heap.objs.size)->IsPair h' TO x y->S1 (i+1) h'->S2 (i+1) h'->IsPair h' s.heap.objs.size x y->(∀c o,c≠z->c≠TO->c≠i1->c≠i2->s.heap.get? c=some o->h'.get? c=some o)->Q (some (.ref s.heap.objs.size)) {s with heap:=h',toks:=tk}):wpAny (model prog w) A (pyNext (.ref z)) Q E s:=by have ty:s.TypeIs (.ref z) "zip":=⟨_,d,rfl⟩;unfold pyNext;refine zQ00 (wpAny_attempt (wpAny_callSpecial?_slot (name:=Str.ofString "__next__") ty F.slot_zip_next (gj F.slot_zip_next ty F.entry_zip_next ?_ (F.args_zip_next_1 _))));exact Dq D1 e f d g h s1 s2 l1 l2 λx y h' tk a1 a2 a3 a4 a5 a6 a7 a8=>zQ02 (j x y h' tk a1 a2 a3 a4 a5 a6 a7 a8)
theorem CP{a b:Value}{Q:Option Value->Shared->Prop}(D1:Draws prog w A.in1 i1 f1 n1 P1 S1)(f:j9 z TI TO i1 i2 f1 f2)(d:IsZip s.heap z TI TO .none)(g:IsPair s.heap TI (.ref i1) (.ref i2))(h:IsPair s.heap TO a b)(s1:S1 n1 s.heap)(i:∀h',(∀c o,c≠z->c≠TO->c≠i1->c≠i2->s.heap.get? c=some o->h'.get? c=some o)->Q none {s with heap:=h'}):wpAny (model prog w) A (pyNext (.ref z)) Q E s:=by have ty:s.TypeIs (.ref z) "zip":=⟨_,d,rfl⟩;unfold pyNext;refine zQ00 (wpAny_attempt (wpAny_callSpecial?_slot (name:=Str.ofString "__next__") ty F.slot_zip_next (gj F.slot_zip_next ty F.entry_zip_next (Di D1 f d g h s1 λh' e j he=>?_) (F.args_zip_next_1 _))));obtain⟨o,ho,hc⟩:=he;refine zQ00 (wpAny_isInstance (T:="StopIteration") (b:=true) ⟨o,ho,hc⟩ isSubtype_stop (zQ02 (i _ j)))
end
section
variable{prog:Program}{w:World}{A:Around}{E:Value->Shared->Prop}{s:Shared}
end
end L3
end
section
namespace L3
open PySem PySem.Spec PyProof.Rows L2
section
variable{X:Cx}{pins:List (Addr×Obj)}{σ:L2.St}{H:Hp}{s:Shared}{h':Heap}
theorem C2{t':Nat}{ch:List Addr}{T:Addr}{o:HO}(I:Inv X pins σ H s)(k:∀b ob,b∉ch->s.heap.get? b=some ob->h'.get? b=some ob)(a:∀b∈ch,mm X pins H b)(hT:s.heap.objs.size<=T)(new:bP X.prog X.w (upd H T o) h' T o):Inv X pins σ (upd H T o) {s with heap:=h',toks:=t'}:=by
 have hn:H T=none:=I.bV.fresh hT;have d:∀b u,H b=some u->b∉ch:=λb u e z=>by rw[(a b z).1]at e;cases e
 refine I.step (g':=s.gens) (d':=s.drawn) (ch:=ch) (λb hb=>⟨(a b hb).2.2.2.1,(a b hb).2.1,(a b hb).2.2.2.2.1,(a b hb).2.2.2.2.2⟩) (λb ob _ _ hc e _=>k b ob hc e) (λb ob _ _ hc e _=>⟨ob.slots,k b ob hc e⟩) (λb ob _ e n=>by rw[bb (zQ23 (eB (zQ07 e) hT))];exact n) (λb ob hc e=>⟨ob,k b ob hc e⟩) (λb xs e=>by rw[bb (aC e hn)];exact e) (λb ob u e=>by rw[bb (aC e hn)];exact e) (λb ps e=>(by rw[bb (aC e hn),e])) (λm hm=>?_) (λb u e=>?_) I.bare;·obtain⟨ob,es,ep,ho,r⟩:=hm;exact⟨ob,es,ep,k _ ob (λz=>(a _ z).2.1 rfl) ho,r⟩
 ·by_cases hb:b=T;·subst hb;rw[aj]at e;cases e;exact new
  ·rw[bb hb]at e;refine(I.bV b u e).sL (λc v hc q=>k c v ?_ q) (λc q=>by rw[bb (aC q hn)];exact q) λc xs q=>by rw[bb (aC q hn)];exact q
   rcases hc with z|z;·rw[z];exact d b u e
   ·exact d c _ z
theorem Kz{t':Nat}{ch:List Addr}(I:Inv X pins σ H s)(k:∀b ob,b∉ch->s.heap.get? b=some ob->h'.get? b=some ob)(a:∀b∈ch,mm X pins H b):Inv X pins σ H {s with heap:=h',toks:=t'}:=by
 have d:∀b u,H b=some u->b∉ch:=λb u e z=>by rw[(a b z).1]at e;cases e
 refine I.step (g':=s.gens) (d':=s.drawn) (ch:=ch) (λb hb=>⟨(a b hb).2.2.2.1,(a b hb).2.1,(a b hb).2.2.2.2.1,(a b hb).2.2.2.2.2⟩) (λb ob _ _ hc e _=>k b ob hc e) (λb ob _ _ hc e _=>⟨ob.slots,k b ob hc e⟩) (λb ob _ e n=>n) (λb ob hc e=>⟨ob,k b ob hc e⟩) (λb xs e=>e) (λb ob u e=>e) (λb ps e=>(by rw[e])) (λm hm=>?_) (λb u e=>?_) I.bare;·obtain⟨ob,es,ep,ho,r⟩:=hm;exact⟨ob,es,ep,k _ ob (λz=>(a _ z).2.1 rfl) ho,r⟩
 ·refine(I.bV b u e).sL (λc v hc q=>k c v ?_ q) (λ_ q=>q) λ_ _ q=>q;rcases hc with z|z;·rw[z];exact d b u e
  ·exact d c _ z
end
noncomputable def Wc(z:Str):It:=⟨λi _=>i<z.cps.size,λi H x H'=>H'=H/\∃c,z.cps[i]?=some c/\x= .str ⟨#[c]⟩,λi _=>z.cps.size<=i⟩
theorem Eb{P:Program}{w:World}{K:PySem.W.Frag}{tg:Expr}(it:Addr)(z:Str)(t:Tok):Turn P w K tg (Wc z) [it] it (λi h=>h.IsStrIter it (strIterType z) z t i)where
 mem:=by simp
 obj:=λi h st b hb=>by
  obtain rfl:b=it:=by simpa using hb
  obtain⟨o,e,c,d⟩:=st;exact⟨o,e,λv q=>by rw[d]at q;cases q⟩
 keep:=λi h h' st k=>by obtain⟨o,e,r⟩:=st;exact⟨o,k it (by simp) o e,r⟩
 item:=by
  intro X y hw p hc i pins s σ H E I l st j;subst y hw p;have hi:i<z.cps.size:=j;have a:z.cps[i]?=some z.cps[i]:=by simp[hi]
  obtain⟨m,f1,f2,f,n,g⟩:=l it (by simp);have fin:∀h',h'.IsStrIter it (strIterType z) z t (i+1)->Heap.SameBut it s.heap h'->∃u,some (Value.str ⟨#[z.cps[i]]⟩ s.toks)=some u/\wpAny (model X.prog X.w) X.A (letOwnedTupleGo tg (.ref it) u) (λ_ s2=>∃x H',Inv X pins σ H' s2/\RelV x u/\(Wc z).DH i H x H'/\s2.heap.IsStrIter it (strIterType z) z t (i+1)/\∀b∈[it],H' b=none) E {s with heap:=h',toks:=s.toks+1}:=by intro h' xn sb;have B:Inv X pins σ H {s with heap:=h',toks:=s.toks+1}:=I.turned (λb o hb e=>(sb.2 b hb).trans e) m f1 f n g;obtain⟨o,e,c,d⟩:=id xn;refine⟨_,rfl,EV (s:={s with heap:=h',toks:=s.toks+1}) e c d (by unfold strIterType;split<;>decide) ⟨.str ⟨#[z.cps[i]]⟩,H,B,⟨_,rfl⟩,⟨rfl,_,a,rfl⟩,xn,λb hb=>(l b hb).1⟩⟩
  cases ha:z.cps.all (·<128)with
   |true=>
    have e:strIterType z="str_ascii_iterator":=by simp[strIterType,ha]
    rw[e]at st fin⊢;exact wpAny_pyNext_ascii_item st a fin
   |false=>
    have e:strIterType z="str_iterator":=by simp[strIterType,ha]
    rw[e]at st fin⊢;exact wpAny_pyNext_wide_item st a fin
 done:=by
  intro X y hw p hc i pins s σ H E I l st j;subst y hw p;have a:z.cps[i]?=none:=by have j:z.cps.size<=i:=j;simpa using j
  obtain⟨m,f1,f2,f,n,g⟩:=l it (by simp);have fin:∀h',Heap.ExtBut it s.heap h'->(none:Option Value)=none/\Inv X pins σ H {s with heap:=h'}:=λh' C=>⟨rfl,I.turned (t':=s.toks) (λb o hb e=>C b o hb e) m f1 f n g⟩;cases ha:z.cps.all (·<128)with
   |true=>
    have e:strIterType z="str_ascii_iterator":=by simp[strIterType,ha]
    rw[e]at st;exact qT (I.hb hc) (I.Qo hc f g) st a fin
   |false=>
    have e:strIterType z="str_iterator":=by simp[strIterType,ha]
    rw[e]at st;exact sC (I.hb hc) (I.Qo hc f g) st a fin
 self:=λA i s Q E st h=>by
  cases ha:z.cps.all (·<128)with
   |true=>
    have e:strIterType z="str_ascii_iterator":=by simp[strIterType,ha]
    rw[e]at st;exact wpAny_pyIter_striter_ascii st h
   |false=>
    have e:strIterType z="str_iterator":=by simp[strIterType,ha]
    rw[e]at st;exact wpAny_pyIter_striter_wide st h
noncomputable def Yc(tl:TE):TI:=λσ H R=>tl σ H λx a=>∃z,x= .str z/\R (Wc z) a
theorem kx{X:Cx}{tg l:Expr}{tl:TE}(hl:PE X l tl):PI X tg l (Yc tl):=by
 intro pins s σ H R I h;refine bL (hl pins s σ H _ I h) λv s1 f=>?_;obtain⟨x,c,a,d,z,e,q⟩:=f;subst e;obtain⟨t,rfl⟩:=d;refine wpAny_pyIter_strU ?_;refine⟨s1.heap.objs.size,[s1.heap.objs.size],_,Wc z,c,rfl,a.kept (t':=s1.toks) λb o e=>zQ01 _ e,Eb _ z t,⟨_,zQ11 _ rfl,rfl,rfl⟩,λb hb=>?_,q⟩;obtain rfl:b=s1.heap.objs.size:=by simpa using hb
 exact a.KH (zQ04 _) (a.bV.fresh (zQ04 _))
structure aak(a b z TI TO i1 i2:Addr)(i:Nat)(h:Heap):Prop where
 z:IsZip h z TI TO .none
 TI:IsPair h TI (.ref i1) (.ref i2)
 TO:∃u v,IsPair h TO u v
 i1:h.IsTupleIter i1 a i
 i2:h.IsTupleIter i2 b i
section
variable{X:Cx}
theorem fw:eV X (.builtin "isinstance") (λxs H Q=>∃x t n b,xs=[x, .ty n]/\iM X.K H x t/\PySem.W.kitOne X.K t (.type n)=some b/\Q (.bl b) H):=by intro pins s σ H xs us Q I r h;obtain⟨x,t,n,b,rfl,ty,e,q⟩:=h;obtain⟨u,v,rfl,a,c⟩:=r.two;obtain rfl:v=Value.type n:=c;exact DM I a ty e λtk=>⟨.bl b,H,I.tok tk,rfl,q⟩
theorem Ap:∀{bs:List Bool}{us:List Value},Vals (bs.map V.bl) us->∀(i:Nat)(u:Value),us[i]?=some u->u=Value.bool ((bs[i]?).getD true)|[],_, .nil,i,u,e=>by simp at e|b::bs,_, .cons r t,0,u,e=>by have r:_=Value.bool b:=r;simp at e;rw[<-e,r];rfl|b::bs,_, .cons r t,i+1,u,e=>by simpa using Ap t i u (by simpa using e)
theorem uc(hc:X.calm=true):eV X (.builtin "all") (λxs H Q=>∃(p:Addr)(bs:List Bool),xs=[.ref p]/\aZ X.K H p (bs.map V.bl)/\Q (.bl (bs.all id)) H):=by
 intro pins s σ H xs us Q I r h;obtain⟨p,bs,rfl,hq,q⟩:=h;obtain⟨u,rfl,B⟩:=r.one;cases B;obtain⟨d,g,A,E⟩:=I.list hq;have hl:=A.isList;have lt:p<s.heap.objs.size:=by obtain⟨o,e,_⟩:=hl;exact zQ07 e
 have y:∀a,X.A.in1.handled=some (.ref a)->a≠s.heap.objs.size:=λa c=>by
  rcases I.hb hc with z|⟨b,oe,vs,j,k,_⟩;·rw[show X.A.in1.handled=X.A.handled from rfl,z]at c;cases c
  ·rw[show X.A.in1.handled=X.A.handled from rfl,j]at c;cases c;exact zQ23 (zQ07 k)
 refine call_all_walk (wpAny_pyIter_list hl ?_);refine⟨s.heap.objs.size,_,[s.heap.objs.size],d.toArray.size,_,_,λi=>(bs[i]?).getD true,rfl,r9 _ p (zQ23 lt) d.toArray y,⟨⟨_,zQ11 _ rfl,rfl,rfl⟩,hl.push _,(I.hb hc).mono λa o _ eo=>zQ01 _ eo⟩,λi v s' D C l m=>?_,λh' tk t=>?_⟩;·have e:v= .bool ((bs[i]?).getD true):=Ap g i v (by simpa using l);subst e;exact wpAny_truthy_bool m
 ·have e:((List.range d.toArray.size).all λi=>(bs[i]?).getD true)=bs.all id:=by
   have n:d.toArray.size=bs.length:=by rw[cw,<-g.length,br]
   rw[n];clear n;rw[Bool.eq_iff_iff,List.all_eq_true,List.all_eq_true];constructor;·intro z x w;obtain⟨i,hi,rfl⟩:=List.mem_iff_getElem.mp w;have :=z i (by simpa using hi);simpa[hi]using this
   ·intro z i hi;have hi:i<bs.length:=by simpa using hi
    have :=z bs[i] (List.getElem_mem hi);simpa[hi]using this
  refine⟨.bl (bs.all id),H,I.kept (h':=h') (t':=tk) λb o f=>t b o (λhm=>?_) (zQ01 _ f),by rw[e];rfl,q⟩;rw[List.mem_singleton.mp hm]at f;exact Nat.lt_irrefl _ (zQ07 f)
end
structure iB(K:PySem.W.Frag)(a:Addr)(D:List (Str×V)):Prop where
 sys:(a==sysModules)=false
 ex:∃o es ep,K.lookup a=some o/\o.ExactDict/\o.data= .dict es ep/\KTD.Rows RelV es.toList D
section
variable{X:Cx}{pins:List (Addr×Obj)}{σ:L2.St}{H:Hp}{s:Shared}{a:Addr}{D:List (Str×V)}{k:Str}{tk:Tok}{A:Around}{E:Value->Shared->Prop}
theorem iB.typeIs(T:iB X.K a D)(I:Inv X pins σ H s):s.TypeIs (.ref a) "dict":=let⟨o,_,_,e,x,_⟩:=T.ex;⟨o,I.lD a o e,x.1⟩
theorem uf{Q:Option Value->Shared->Prop}(T:iB X.K a D)(I:Inv X pins σ H s)(h1:∀v u,KTD.datumAt k D=some v->RelV v u->Q (some u) {s with toks:=s.toks+1})(h2:KTD.datumAt k D=none->Q none {s with toks:=s.toks+1}):wpAny (model X.prog X.w) A (dictGet a (.str k tk)) Q E s:=by
 obtain⟨_,o,es,ep,j,_,ed,f⟩:=T;have eo:=I.lD a o j;unfold dictGet;try with_reducible refine eN ?_
 have g:(es.all λe=>isExactStrKey e.key)=true:=by obtain⟨l⟩:=es;simpa using f.exact
 refine zQ00 (wpAny_pyHash_str (zQ00 (KTD.kt_dictFind_strs (s:={s with toks:=s.toks+1}) eo ed g ?_)));have b:Q (findBy (λk v=>v.isStr k) es k) {s with toks:=s.toks+1}:=by
  have h:findBy (λk v=>v.isStr k) es k=(es.toList.find? λe=>e.key.isStr k).map (·.val):=by obtain⟨l⟩:=es;simp[findBy]
  rw[h];cases c:KTD.datumAt k D with|some d=>obtain⟨v,hv,hr⟩:=f.find_some c;rw[hv];exact h1 d v c hr|none=>rw[f.find_none c];exact h2 c
 rw[findBy_of_findIdx?]at b;cases hi:es.findIdx? λe=>e.key.isStr k with|none=>rw[hi]at b;exact zQ02 b|some i=>rw[hi]at b;exact zQ00 (wpAny_dictEntries (s:={s with toks:=s.toks+1}) eo ed (zQ02 b))
theorem F8{Q:Value->Shared->Prop}{v:V}(T:iB X.K a D)(I:Inv X pins σ H s)(hd:KTD.datumAt k D=some v)(h:∀u,RelV v u->Q u {s with toks:=s.toks+1}):wpAny (model X.prog X.w) A (getItem (.ref a) (.str k tk)) Q E s:=by
 have ty:=T.typeIs I;unfold getItem;try with_reducible refine eN ?_
 refine zQ00 (wpAny_sequenceKey ty (by decide) ?_);refine zQ00 (wpAny_callSpecial?_slot (name:=Str.ofString "__getitem__") ty slot_dict_getitem (gj slot_dict_getitem ty entry_dict_getitem ?_ (args_dict_getitem _ _)));show wpAny (model X.prog X.w) _ (dictGet a (.str k tk)>>=_) _ _ s;refine zQ00 (uf T I (λb u e r=>?_) λhn=>?_);·rw[hd]at e;cases e;exact zQ02 ⟨u,rfl,zQ02 (h u r)⟩
 ·rw[hd]at hn;cases hn
noncomputable def f_(k:Str)(D:List (Str×V)):Bool:=(KTD.datumAt k D).isSome
theorem jS{Q:Bool->Shared->Prop}(T:iB X.K a D)(I:Inv X pins σ H s)(h:Q (f_ k D) {s with toks:=s.toks+1}):wpAny (model X.prog X.w) A (contains (.ref a) (.str k tk)) Q E s:=by
 have ty:=T.typeIs I;unfold contains;try with_reducible refine eN ?_
 refine zQ00 (wpAny_specialOf ty slot_dict_contains.lookup ?_);show wpAny (model X.prog X.w) _ (if(some (Value.builtin "dict.__contains__")==some Value.none)=true then _ else _) _ E s;rw[if_neg (by rw[beq_builtin_none];exact dA)];refine zQ00 (wpAny_callSpecialUnlessNone?_slot (name:=Str.ofString "__contains__") ty slot_dict_contains (gj slot_dict_contains ty entry_dict_contains ?_ (args_dict_contains _ _)));show wpAny (model X.prog X.w) _ (dictGet a (.str k tk)>>=_) _ _ s;refine zQ00 (uf T I (λv u e _=>?_) λhn=>?_)
 ·have hb:f_ k D=true:=by unfold f_;rw[e];rfl
  rw[hb]at h;show wpAny (model X.prog X.w) _ (ret (.bool true)) _ _ _;exact zQ02 ⟨_,rfl,wpAny_truthy_bool h⟩
 ·have hb:f_ k D=false:=by unfold f_;rw[hn];rfl
  rw[hb]at h;show wpAny (model X.prog X.w) _ (Builtin.Dict.pendingKey? a (.str k tk)>>=_) _ _ _;exact zQ00 (wpAny_pendingKey_other T.sys (zQ02 ⟨_,rfl,wpAny_truthy_bool h⟩))
end
section
variable{X:Cx}
theorem Dh:il X (compareOp .In) (λx y H Q=>∃k a D,x= .str k/\y= .ref a/\iB X.K a D/\Q (.bl (f_ k D)) H):=by intro pins s σ H x y v u Q I b c h;obtain⟨k,a,D,rfl,rfl,T,q⟩:=h;obtain⟨t,rfl⟩:=b;cases c;show wpAny (model X.prog X.w) _ (do return Value.bool (<-contains (.ref a) (.str k t)):Sem Value) _ _ s;exact zQ00 (jS T I (zQ02 ⟨.bl _,H,I.tok _,rfl,q⟩))
theorem uB:il X (compareOp .NotIn) (λx y H Q=>∃k a D,x= .str k/\y= .ref a/\iB X.K a D/\Q (.bl (!f_ k D)) H):=by intro pins s σ H x y v u Q I b c h;obtain⟨k,a,D,rfl,rfl,T,q⟩:=h;obtain⟨t,rfl⟩:=b;cases c;show wpAny (model X.prog X.w) _ (do return Value.bool (!(<-contains (.ref a) (.str k t))):Sem Value) _ _ s;exact zQ00 (jS T I (zQ02 ⟨.bl _,H,I.tok _,rfl,q⟩))
noncomputable def YM(K:PySem.W.Frag):R2:=λx y H Q=>∃a D k v,x= .ref a/\y= .str k/\iB K a D/\KTD.datumAt k D=some v/\Q v H
theorem Ny{o i:Expr}{m:Pos}{c ty:TE}(ho:PE X o c)(hi:PE X i ty)(l:To i):PE X (.Subscript o i m) (JO (YM X.K) c ty):=by intro pins s σ H Q I h;refine JD PySem.F.slot_dict_getitem.lookup l (bL (ho pins s σ H _ I h) λu s1⟨x,d,g,n,q1⟩=>bL (hi pins s1 σ d _ g q1) λw s2 q=>?_);obtain⟨y,f,b,p,a,D,k,v,ex,j,T,e,q2⟩:=q;subst ex j;cases n;obtain⟨t,rfl⟩:=p;exact⟨T.typeIs b,F8 T b e λu r=>⟨v,f,b.tok _,r,q2⟩⟩
end
end L3
end
section
namespace KM
open PySem
inductive D where|bz|bl(b:Bool)|int(i:Int)|str(x:Str)|tup(ds:List D)deriving Inhabited
mutual noncomputable def aP:D->Nat| .tup ds=>1+bh ds| .bz=>0| .bl _=>0| .int _=>0| .str _=>0 noncomputable def bh:List D->Nat|[]=>0|d::r=>aP d+bh r end
mutual noncomputable def depth:D->Nat| .tup ds=>1+bq ds| .bz=>0| .bl _=>0| .int _=>0| .str _=>0 noncomputable def bq:List D->Nat|[]=>0|d::r=>max (depth d) (bq r)end
noncomputable def isTup:D->Bool| .tup _=>true|_=>false
noncomputable def tk:D->List D| .tup ds=>ds.filter isTup|_=>[]
end KM
end
section
namespace L3
open PySem PySem.Spec PyProof.Rows L2 KM
mutual/--v stands for d on the heap H -/noncomputable def Rep(H:Hp):D->V->Prop| .bz,v=>v= .bz| .bl b,v=>v= .bl b| .int i,v=>v= .int i| .str x,v=>v= .str x/\x.length<=1000| .tup ds,v=>∃a vs,v= .ref a/\H a=some (.tup vs)/\cv H ds vs noncomputable def cv(H:Hp):List D->List V->Prop|[],vs=>vs=[]|d::ds,vs=>∃v r,vs=v::r/\Rep H d v/\cv H ds r end
mutual theorem Rep.mono{H H':Hp}(h:aN H H'):∀{d:D}{v:V},Rep H d v->Rep H' d v| .bz,_,r=>r| .bl _,_,r=>r| .int _,_,r=>r| .str _,_,r=>r| .tup _,_,⟨a,vs,e,q,r⟩=>⟨a,vs,e,h _ _ q,cv.mono h r⟩theorem cv.mono{H H':Hp}(h:aN H H'):∀{ds:List D}{vs:List V},cv H ds vs->cv H' ds vs|[],_,r=>r|_::_,_,⟨v,r,e,q,t⟩=>⟨v,r,e,Rep.mono h q,cv.mono h t⟩end
theorem cv.length{H:Hp}:∀{ds:List D}{vs:List V},cv H ds vs->vs.length=ds.length|[],_,r=>by have r:_=[]:=r;rw[r];rfl|_::_,_,⟨v,r,e,q,t⟩=>by rw[e,cU,cU,cv.length t]
theorem cv.get{H:Hp}:∀{ds:List D}{vs:List V}{i:Nat}{d:D},cv H ds vs->ds[i]?=some d->∃v,vs[i]?=some v/\Rep H d v|[],_,_,_,_,e=>by simp at e|d::_,_,0,_,⟨v,r,e,q,t⟩,h=>by simp at h;subst h;exact⟨v,by rw[e];rfl,q⟩|_::ds,_,i+1,d,⟨v,r,e,q,t⟩,h=>by obtain⟨u,h1,h2⟩:=cv.get (i:=i) t (by simpa using h);exact⟨u,by rw[e];simpa using h1,h2⟩
theorem cv.append{H:Hp}:∀{ds es:List D}{vs us:List V},cv H ds vs->cv H es us->cv H (ds++es) (vs++us)|[],_,_,_,r,q=>by have r:_=[]:=r;subst r;exact q|_::_,_,_,_,⟨v,r,e,p,t⟩,q=>by subst e;exact⟨v,r++_,rfl,p,cv.append t q⟩
theorem cv.one{H:Hp}{d:D}{v:V}(r:Rep H d v):cv H [d] [v]:=⟨v,[],rfl,r,rfl⟩
theorem cv.snoc{H:Hp}{ds:List D}{vs:List V}{d:D}{v:V}(r:cv H ds vs)(q:Rep H d v):cv H (ds++[d]) (vs++[v]):=r.append (cv.one q)
noncomputable def Zk:D->String| .bz=>"NoneType"| .bl _=>"bool"| .int _=>"int"| .str _=>"str"| .tup _=>"tuple"
theorem Rep.ty{K:PySem.W.Frag}{H:Hp}:∀{d:D}{v:V},Rep H d v->iM K H v (.type (Zk d))| .bz,_,r=>by cases(show _=V.bz from r);exact .bz| .bl b,_,r=>by cases(show _=V.bl b from r);exact .bl b| .int i,_,r=>by cases(show _=V.int i from r);exact .int i| .str x,_,r=>by cases(show _=V.str x from r.1);exact .str x| .tup _,_,⟨a,vs,e,q,_⟩=>by cases e;exact .tup q
noncomputable def aY:D->Bool| .str _=>true|_=>false
theorem BZ(K:PySem.W.Frag)(d:D):PySem.W.kitOne K (.type (Zk d)) (.type "tuple")=some (isTup d):=by cases d<;>rfl
theorem IU(K:PySem.W.Frag)(d:D):PySem.W.kitOne K (.type (Zk d)) (.type "str")=some (aY d):=by cases d<;>rfl
theorem aq{H:Hp}{p:Addr}(h:H p=none)(o:HO):aN H (upd H p o):=λb u q=>by rw[bb (aC q h)];exact q
end L3
end
section
namespace L3
open PySem PySem.Spec PyProof.Rows L2
theorem part_of{u:Value}{o:Option Int}(p:IsPart u o):∃q:Option (Int×Tok),u=partValue q/\q.map (·.1)=o:=by cases p with|none=>exact⟨none,rfl,rfl⟩|int i t=>exact⟨some (i,t),rfl,rfl⟩
theorem d4{J:It}{g:TG}{tb:TS}{D:Ends}{σ:L2.St}{H:Hp}(n:Nat)(Pv:Nat->L2.St->Hp->Prop)(h:Pv 0 σ H)(j:∀i σ H,i<n->Pv i σ H->J.go i H/\∀x H',J.DH i H x H'->g x σ H' λc a=>tb {D with nx:=Pv (i+1),ct:=Pv (i+1),bk:=D.nx} c a)(hd:∀σ H,Pv n σ H->J.stop n H/\D.nx σ H):∃W:Nat->Nat->L2.St->Hp->Prop,(∃m,W 0 m σ H)/\∀i m σ H,W i m σ H->(J.stop i H/\D.nx σ H)\/(J.go i H/\∃N:L2.St->Hp->Prop,(∀b H',N b H'->∃d,d<m/\W (i+1) d b H')/\∀x H',J.DH i H x H'->g x σ H' λc a=>tb {D with nx:=N,ct:=N,bk:=D.nx} c a):=by
 refine⟨λi m σ H=>m=n-i/\i<=n/\Pv i σ H,⟨n,by simp,zQ27 _,h⟩,?_⟩;rintro i m σ H⟨rfl,hi,p⟩;by_cases hlt:i<n;·obtain⟨e,f⟩:=j i σ H hlt p;exact .inr ⟨e,Pv (i+1),λb H' k=>⟨n-(i+1),by lia,rfl,hlt,k⟩,f⟩
 ·obtain rfl:i=n:=by lia
  exact .inl (hd σ H p)
def bp(p:Addr)(H H':Hp):Prop:=∀b o,b≠p->H b=some o->H' b=some o
theorem bp.trans{p:Addr}{H d e:Hp}(a:bp p H d)(b:bp p d e):bp p H e:=λc o n h=>b c o n (a c o n h)
theorem _root_.L2.aN.x{p:Addr}{H H':Hp}(a:aN H H'):bp p H H':=λc o _ h=>a c o h
theorem bp.upd{p:Addr}{H:Hp}(o:HO):bp p H (upd H p o):=λb u n h=>by rw[bb n];exact h
mutual theorem Rep.fH{p:Addr}{H H':Hp}(h:bp p H H')(hp:∀vs,H p≠some (.tup vs)):∀{d:KM.D}{v:V},Rep H d v->Rep H' d v| .bz,_,r=>r| .bl _,_,r=>r| .int _,_,r=>r| .str _,_,r=>r| .tup _,_,⟨a,vs,e,q,r⟩=>⟨a,vs,e,h _ _ (λz=>hp vs (by rw[<-z];exact q)) q,cv.fH h hp r⟩theorem cv.fH{p:Addr}{H H':Hp}(h:bp p H H')(hp:∀vs,H p≠some (.tup vs)):∀{ds:List KM.D}{vs:List V},cv H ds vs->cv H' ds vs|[],_,r=>r|_::_,_,⟨v,r,e,q,t⟩=>⟨v,r,e,Rep.fH h hp q,cv.fH h hp t⟩end
section
variable{prog:Program}{w:World}{A:Around}{E:Value->Shared->Prop}{s:Shared}{d:Addr}{o:Obj}{es:Array DictEntry}{ep:Nat}{Io:Int}
end
section
variable{X:Cx}{pins:List (Addr×Obj)}{σ:L2.St}{H:Hp}{s:Shared}{a:Addr}{D:List (Str×V)}{A:Around}{E:Value->Shared->Prop}
end
end L3
end
section
namespace L3
open PySem L2
section
variable{prog:Program}{w:World}{A:Around}{E:Value->Shared->Prop}{s:Shared}
theorem Qs{it t:Addr}{i:Nat}{d:Array Value}{x:Value}{Q:Value->Shared->Prop}(c:s.heap.IsListIter it t i)(gt:s.heap.IsList t d)(h:d[i]?=some x)(j:∀h',h'.IsListIter it t (i+1)->Heap.SameBut it s.heap h'->Q x {s with heap:=h'}):wpAny (model prog w) A (Builtin.SmallTypes.nextOf (.ref it)) Q E s:=by obtain⟨l,b,e,a⟩:=id c;obtain⟨m,g,_,k,f⟩:=gt;unfold Builtin.SmallTypes.nextOf;refine zQ00 (wpAny_callSpecial?_slot (name:=Str.ofString "__next__") c.typeIs slot_listiter_next (gj slot_listiter_next c.typeIs entry_listiter_next ?_ (args_listiter_next _)));show wpAny (model prog w) _ (field (.ref it) 0>>=_) _ _ s;refine zQ00 (c9 b a (x:= .ref t) rfl ?_);show wpAny (model prog w) _ (if(Value.ref t==Value.none)=true then _ else _) _ _ s;rw[if_neg (show¬(Value.ref t==Value.none)=true from dA)];show wpAny (model prog w) _ (field (.ref it) 1>>=_) _ _ s;refine zQ00 (c9 b a (x:= .int i 0) rfl ?_);show wpAny (model prog w) _ (seqItems? (.ref t)>>=_) _ _ s;refine zQ00 (wpAny_seqItems g f ?_);simp only[Int.toNat_natCast,h];refine zQ00 (wpAny_setField b a (by simp) (zQ02 ⟨x,rfl,zQ02 (j _ ?_ (Heap.SameBut.update ..))⟩));refine⟨_,mv _ b (Obj.isFreed_of_fields (Obj.data_mapFields a _)),(Obj.cls_mapFields ..).trans e,?_⟩;rw[Obj.data_mapFields a];simp[rawInt]
theorem yY{it t:Addr}{i:Nat}{f:Array Value}{Q:Value->Shared->Prop}(hb:HB s.heap A)(m:∀a,A.handled=some (.ref a)->a≠it)(d:s.heap.IsListIter it t i)(gt:s.heap.IsList t f)(j:f[i]?=none)(l:∀h' e,Heap.ExtBut it s.heap h'->(∃o,h'.get? e=some o/\o.cls= .type "StopIteration")->E (.ref e) {s with heap:=h'}):wpAny (model prog w) A (Builtin.SmallTypes.nextOf (.ref it)) Q E s:=by obtain⟨q,c,n,b⟩:=id d;obtain⟨r,h,_,p,g⟩:=gt;unfold Builtin.SmallTypes.nextOf;refine zQ00 (wpAny_callSpecial?_slot (name:=Str.ofString "__next__") d.typeIs slot_listiter_next (gj slot_listiter_next d.typeIs entry_listiter_next ?_ (args_listiter_next _)));show wpAny (model prog w) _ (field (.ref it) 0>>=_) _ _ s;refine zQ00 (c9 c b (x:= .ref t) rfl ?_);show wpAny (model prog w) _ (if(Value.ref t==Value.none)=true then _ else _) _ _ s;rw[if_neg (show¬(Value.ref t==Value.none)=true from dA)];show wpAny (model prog w) _ (field (.ref it) 1>>=_) _ _ s;refine zQ00 (c9 c b (x:= .int i 0) rfl ?_);show wpAny (model prog w) _ (seqItems? (.ref t)>>=_) _ _ s;refine zQ00 (wpAny_seqItems h g ?_);simp only[Int.toNat_natCast,j];refine zQ00 (wpAny_rule (zQ00 (wpAny_setField c b (by simp) ?_)));exact eG (A:=A.in1) (hb.upd m) λh' e k he=>l h' e (jj k) he
end
theorem ka{prog:Program}{w:World}{A:Around}(it t:Addr)(ne:t≠it)(e:∀a,A.handled=some (.ref a)->a≠it)(c:Array Value):Draws prog w A it (it::t::kg A) c.size (λi v=>c[i]?=some v) (λi h=>h.IsListIter it t i/\h.IsList t c/\HB h A)where
 live:=λ_ _ st=>let⟨o,ho,_⟩:=st.1;⟨o,ho⟩;frame:=λi h h' st d=>by obtain⟨⟨f,j,p⟩,⟨g,k,q⟩,hb⟩:=st;exact⟨⟨f,d it (by simp) f j,p⟩,⟨g,d t (by simp) g k,q⟩,hb.frame λb hb=>d b (by simp[hb])⟩
 item:=λi s Q E hi st n=>by refine Qs st.1 st.2.1 (x:=c[i]) (by simp[hi]) λh' k1 k2=>?_;exact n _ h' s.toks (by simp[hi]) ⟨k1,st.2.1.extBut k2.extBut ne,st.2.2.mono λa o l eo=>k2.extBut a o (e a l) eo⟩ k2
 done:=λs Q E st m=>yY st.2.2 e st.1 st.2.1 (by simp) m
noncomputable abbrev W0(h:Heap)(a:Addr):Heap:=h.push {cls:= .type "list_iterator",data:= .fields #[.ref a, .int 0 0]}
noncomputable abbrev V4(h:Heap)(a b:Addr):Heap:=(W0 h a).push {cls:= .type "list_iterator",data:= .fields #[.ref b, .int 0 0]}
noncomputable abbrev Wn(h:Heap)(a b:Addr):Heap:=(V4 h a b).push {cls:= .type "tuple",data:= .seq #[.ref h.objs.size, .ref (W0 h a).objs.size]}
noncomputable abbrev WM(h:Heap)(a b:Addr):Heap:=(Wn h a b).push {cls:= .type "tuple",data:= .seq #[.none, .none]}
noncomputable abbrev QX(h:Heap)(a b:Addr):Heap:=(WM h a b).push {cls:= .type "zip",data:= .fields #[.none, .bool false, .bool false, .ref (V4 h a b).objs.size, .ref (Wn h a b).objs.size]}
theorem yD(a b:Addr)(xs e:Array Value):Meets (Builtin.«zip.__new__» ⟨[.type "zip", .ref a, .ref b],[]⟩) (λ_ R s=>s.heap.IsList a xs/\s.heap.IsList b e/\R (.ok (.ret (.ref (WM s.heap a b).objs.size))) {s with heap:=QX s.heap a b}):= .of_wp λprog w A R s h=>by obtain⟨c,g,d,tk,os⟩:=s;obtain⟨k1,k2,h⟩:=h;have hsub:=sub_zip;have f:Heap.IsList (Shared.heap ⟨c,g,d,tk,os⟩) a xs:=k1;have i:Heap.IsList (Shared.heap ⟨c.push {cls:= .type "list_iterator",data:= .fields #[.ref a, .int 0 0]},g,d,tk,os⟩) b e:=Heap.IsList.push k2 _;wp_walk using wpAny_pyIter_list f,wpAny_pyIter_list i;exact⟨_,rfl,h⟩
section
variable{prog:Program}{w:World}{A:Around}{E:Value->Shared->Prop}{s:Shared}
theorem CS{a b:Addr}{xs m:Array Value}{Q:Value->Shared->Prop}(k1:s.heap.IsList a xs)(k2:s.heap.IsList b m)(h:∀h',IsZip h' (s.heap.objs.size+4) (s.heap.objs.size+2) (s.heap.objs.size+3) .none->IsPair h' (s.heap.objs.size+2) (.ref s.heap.objs.size) (.ref (s.heap.objs.size+1))->IsPair h' (s.heap.objs.size+3) .none .none->h'.IsListIter s.heap.objs.size a 0->h'.IsListIter (s.heap.objs.size+1) b 0->(∀c o,s.heap.get? c=some o->h'.get? c=some o)->Q (.ref (s.heap.objs.size+4)) {s with heap:=h'}):wpAny (model prog w) A (call (.type "zip") [.ref a, .ref b]) Q E s:=by
 refine callType_new F.called_zip (by decide) (F.typeCall_zip_2 _ _) (F.newCall_zip_2 _ _) (λobj=>F.args_object_init_3 obj _ _) F.entry_zip_new (yD a b xs m) ⟨k1,k2,?_⟩;have d:(W0 s.heap a).objs.size=s.heap.objs.size+1:=zQ28 ..;have e:(V4 s.heap a b).objs.size=s.heap.objs.size+2:=by rw[zQ28,d]
 have f:(Wn s.heap a b).objs.size=s.heap.objs.size+3:=by rw[zQ28,e]
 have i:(WM s.heap a b).objs.size=s.heap.objs.size+4:=by rw[zQ28,f]
 have g:(QX s.heap a b).get? (WM s.heap a b).objs.size=some _:=zQ11 _ rfl;have l:(QX s.heap a b).get? (Wn s.heap a b).objs.size=some _:=zQ01 _ (zQ11 _ rfl);have k:(QX s.heap a b).get? (V4 s.heap a b).objs.size=some _:=zQ01 _ (zQ01 _ (zQ11 _ rfl));have j:(QX s.heap a b).get? (W0 s.heap a).objs.size=some _:=zQ01 _ (zQ01 _ (zQ01 _ (zQ11 _ rfl)));have n:(QX s.heap a b).get? s.heap.objs.size=some _:=zQ01 _ (zQ01 _ (zQ01 _ (zQ01 _ (zQ11 _ rfl))));show _/\_;rw[e,f,i]at g;rw[d,e]at k;rw[f]at l;rw[d]at j;rw[i];refine⟨⟨_,g,rfl⟩,h _ g k l ⟨_,n,rfl,rfl⟩ ⟨_,j,rfl,rfl⟩ λc o q=>?_⟩;exact zQ01 _ (zQ01 _ (zQ01 _ (zQ01 _ (zQ01 _ q))))
end
end L3
end
section
namespace L3
open PySem PySem.Spec PyProof.Rows L2
theorem vZ{X:Cx}{pins:List (Addr×Obj)}{σ:L2.St}{H:Hp}{s:Shared}{a d:Addr}{xs:List V}(I:Inv X pins σ H s)(q:aZ X.K H a xs)(f:mm X pins H d):a≠d:=λz=>by
 subst z;rcases q with(q|⟨o,q⟩)|⟨o,_,_,q,_⟩;·rw[f.1]at q;cases q
 ·rw[f.1]at q;cases q
 ·have e:=I.ok.mod.Ic a o q;rcases f.2.2.2.1 with z|z;·exact I.ok.xI a o e z
  ·exact absurd (eB (zQ07 e) I.ok.D3) (Nat.not_lt.mpr z)
noncomputable def Tr(K:PySem.W.Frag)(a b:Addr):It:=⟨λi H=>∃xs c x y,aZ K H a xs/\aZ K H b c/\xs[i]?=some x/\c[i]?=some y,λi H v H'=>∃p x y,v= .ref p/\H p=none/\H'=upd H p (.tup [x,y])/\∀xs c,aZ K H a xs->aZ K H b c->xs[i]?=some x/\c[i]?=some y,λi H=>∃xs c,aZ K H a xs/\aZ K H b c/\xs.length=i⟩
structure Td(a b z TI TO i1 i2:Addr)(i:Nat)(h:Heap):Prop where
 z:IsZip h z TI TO .none
 TI:IsPair h TI (.ref i1) (.ref i2)
 TO:∃u v,IsPair h TO u v
 i1:h.IsListIter i1 a i
 i2:h.IsListIter i2 b i
theorem C_{P:Program}{w:World}{K:PySem.W.Frag}{es:List Expr}{k:Nat}{pos:Pos}(a b n:Nat):Turn P w K (.Tuple es k pos) (Tr K a b) [n+4,n+2,n+3,n,n+1] (n+4) (Td a b (n+4) (n+2) (n+3) n (n+1))where
 mem:=by simp
 obj:=λi h st c hc=>by
  simp only[zQ34,zQ16,or_false]at hc;obtain⟨C,m,_,d1⟩:=st.i1;obtain⟨N,p,_,d2⟩:=st.i2;obtain⟨u,v,eo⟩:=st.TO;rcases hc with rfl|rfl|rfl|rfl|rfl;·exact⟨_,st.z,λv q=>by cases q⟩
  ·exact⟨_,st.TI,λv q=>by cases q⟩
  ·exact⟨_,eo,λv q=>by cases q⟩
  ·exact⟨C,m,λv q=>by rw[d1]at q;cases q⟩
  ·exact⟨N,p,λv q=>by rw[d2]at q;cases q⟩
 keep:=λi h h' st kp=>by obtain⟨C,m,r1⟩:=st.i1;obtain⟨N,p,r2⟩:=st.i2;obtain⟨u,v,eo⟩:=st.TO;exact⟨kp _ (by simp) _ st.z,kp _ (by simp) _ st.TI,⟨u,v,kp _ (by simp) _ eo⟩,⟨C,kp _ (by simp) _ m,r1⟩,⟨N,kp _ (by simp) _ p,r2⟩⟩
 item:=by
  intro X G hw F hc i pins s σ H E I f st J;subst G hw F;obtain⟨xs,ys,x,y,q1,q2,Y,Z⟩:=J;obtain⟨t,R,O,_⟩:=I.list q1;obtain⟨L,rv2,p2,_⟩:=I.list q2;obtain⟨S,V,YK⟩:=R.get Y;obtain⟨U,W,Yl⟩:=rv2.get Z;obtain⟨u,v,eo⟩:=st.TO;have ltz:=zQ07 st.z;have l1:i<t.toArray.size:=by rw[cw];exact(List.getElem?_eq_some_iff.mp V).1
  have l2:i<L.toArray.size:=by rw[cw];exact(List.getElem?_eq_some_iff.mp W).1
  have j:∀d∈[n+4,n+2,n+3,n,n+1],a≠d:=λd hd=>vZ I q1 (f d hd);have r:∀d∈[n+4,n+2,n+3,n,n+1],b≠d:=λd hd=>vZ I q2 (f d hd);have l:j9 (n+4) (n+2) (n+3) n (n+1) (n::a::kg X.A.in1) ((n+1)::b::kg X.A.in1):=by have M:∀d∈[n+4,n+2,n+3,n,n+1],d∉kg X.A.in1:=λd hd z=>I.Qo hc (f d hd).2.2.2.1 (f d hd).2.2.2.2.2 d (rB z) rfl;have a1:=j (n+4) (by simp);have a2:=j (n+3) (by simp);have a3:=j (n+1) (by simp);have b1:=r (n+4) (by simp);have b2:=r (n+3) (by simp);have b3:=r n (by simp);constructor<;>(try simp only[zQ34,not_or])<;>first|lia|exact⟨by lia,by lia,M _ (by simp)⟩
  have D:∀d∈[n+4,n+2,n+3,n,n+1],∀a,X.A.in1.handled=some (.ref a)->a≠d:=λd hd=>I.Qo hc (f d hd).2.2.2.1 (f d hd).2.2.2.2.2;refine Dg (ka n a (j n (by simp)) (D n (by simp)) t.toArray) (ka (n+1) b (r (n+1) (by simp)) (D (n+1) (by simp)) L.toArray) l st.z st.TI eo ⟨st.i1,O.isList,I.hb hc⟩ ⟨st.i2,p2.isList,I.hb hc⟩ l1 l2 λx' y' h1 tk m p z1 C s1 s2 pr kp=>?_;have m:t.toArray[i]?=some x':=m;have p:L.toArray[i]?=some y':=p;have ex:S=x':=by rw[List.getElem?_toArray,V]at m;exact Option.some.inj m
  have ey:U=y':=by rw[List.getElem?_toArray,W]at p;exact Option.some.inj p
  subst ex ey;refine⟨_,rfl,wpAny_letOwnedTupleGo_zip (s:={s with heap:=h1,toks:=tk}) z1 λh2 z2 sb=>?_⟩;have lt:∀d∈[n+4,n+2,n+3,n,n+1],d<s.heap.objs.size:=λd hd=>by
   have :d<=n+4:=by simp at hd;lia
   exact Nat.lt_of_le_of_lt this ltz
  have B:∀c o,c≠n+4->h1.get? c=some o->h2.get? c=some o:=λc o g e=>(sb.2 c g).trans e;have prT:h2.get? s.heap.objs.size=some {cls:= .type "tuple",data:= .seq #[S,U]}:=B _ _ (Nat.ne_of_gt ltz) pr;refine⟨.ref s.heap.objs.size,_,C2 (s:=s) (h':=h2) (t':=tk) (ch:=[n+4,n+3,n,n+1]) (T:=s.heap.objs.size) (o:= .tup [x,y]) I (λc o g e=>?_) (λd hd=>f d (by simp only[zQ34,zQ16,or_false]at hd⊢;rcases hd with z|z|z|z<;>simp[z])) (zQ04 _) ?_,rfl,⟨_,x,y,rfl,I.bV.fresh (zQ04 _),rfl,λxs' ys' a1 a2=>?_⟩,?_,λd hd=>?_⟩;·simp only[zQ34,zQ16,or_false,not_or]at g;exact B c o g.1 (kp c o g.1 g.2.1 g.2.2.1 g.2.2.2 e)
  ·exact⟨(gH rfl),[S,U], .cons YK (.cons Yl .nil),⟨_,prT,rfl,_,rfl⟩⟩
  ·rw[I.qi a1 q1,I.qi a2 q2];exact⟨Y,Z⟩
  ·obtain⟨⟨oa,ea,ra⟩,_⟩:=s1;obtain⟨⟨ob,eb,rb⟩,_⟩:=s2;refine⟨z2,B _ _ l.TIz (kp _ _ l.TIz l.TITO l.TI1 l.TI2 st.TI),⟨_,_,B _ _ (by lia) C⟩,⟨oa,B _ _ (by lia) ea,ra⟩,⟨ob,B _ _ (by lia) eb,rb⟩⟩
  ·rw[bb (zQ23 (lt d hd))];exact(f d hd).1
 done:=by
  intro X G hw F hc i pins s σ H E I f st J;subst G hw F;obtain⟨xs,ys,q1,q2,hl⟩:=J;obtain⟨t,R,O,_⟩:=I.list q1;obtain⟨u,v,eo⟩:=st.TO;have j:∀d∈[n+4,n+2,n+3,n,n+1],a≠d:=λd hd=>vZ I q1 (f d hd);have r:∀d∈[n+4,n+2,n+3,n,n+1],b≠d:=λd hd=>vZ I q2 (f d hd);have l:j9 (n+4) (n+2) (n+3) n (n+1) (n::a::kg X.A.in1) ((n+1)::b::kg X.A.in1):=by have M:∀d∈[n+4,n+2,n+3,n,n+1],d∉kg X.A.in1:=λd hd z=>I.Qo hc (f d hd).2.2.2.1 (f d hd).2.2.2.2.2 d (rB z) rfl;have a1:=j (n+4) (by simp);have a2:=j (n+3) (by simp);have a3:=j (n+1) (by simp);have b1:=r (n+4) (by simp);have b2:=r (n+3) (by simp);have b3:=r n (by simp);constructor<;>(try simp only[zQ34,not_or])<;>first|lia|exact⟨by lia,by lia,M _ (by simp)⟩
  have hi:t.toArray.size=i:=by rw[cw,<-R.length];exact hl
  subst hi;have D:∀d∈[n+4,n+2,n+3,n,n+1],∀a,X.A.in1.handled=some (.ref a)->a≠d:=λd hd=>I.Qo hc (f d hd).2.2.2.1 (f d hd).2.2.2.2.2;refine CP (ka n a (j n (by simp)) (D n (by simp)) t.toArray) l st.z st.TI eo ⟨st.i1,O.isList,I.hb hc⟩ λh1 kp=>⟨rfl,?_⟩;refine Kz (t':=s.toks) (ch:=[n+4,n+3,n,n+1]) I (λc o g e=>?_) λd hd=>f d (by simp only[zQ34,zQ16,or_false]at hd⊢;rcases hd with z|z|z|z<;>simp[z]);simp only[zQ34,zQ16,or_false,not_or]at g;exact kp c o g.1 g.2.1 g.2.2.1 g.2.2.2 e
 self:=λA i s Q E st h=>wpAny_pyIter_zip st.z h
noncomputable def Vn(K:PySem.W.Frag)(d:TA):TI:=λσ H R=>d σ H λvs c=>∃a b xs e,vs=[.ref a, .ref b]/\aZ K c a xs/\aZ K c b e/\R (Tr K a b) c
theorem z_{X:Cx}{es:List Expr}{k:Nat}{D:Pos}{a b:Expr}{j:TA}{p i:Pos}(o:Gl X "zip")(hm:X.mg "zip"=none)(ha:PA X [a,b] j)(r:starEach [a,b] X.env=[(false,eval a X.env),(false,eval b X.env)]:=by rfl)(g:starEach [b] X.env=[(false,eval b X.env)]:=by rfl):PI X (.Tuple es k D) (.Call (.Name "zip" p) [a,b] [] i) (Vn X.K j):=by
 intro pins s σ H R I h;refine Call_ (gr I o hm boot_zip (PyProof.Rows.callWith_type1 (bL (ha i pins s σ H _ I h) λus s1⟨vs,f,c,w,q1⟩=>?_) (by rw[r,g]) (by rw[g];rfl)));obtain⟨a1,n,xs,M,e,k1,k2,q⟩:=q1;subst e;obtain⟨K,L,rfl,x,y⟩:=Vals.two w;cases x;cases y;obtain⟨E,G,u,_⟩:=c.list k1;obtain⟨F,J,v,_⟩:=c.list k2;refine CS u.isList v.isList λh1 l C t A B kp=>?_;refine wpAny_pyIter_zip (s:={s1 with heap:=h1}) l ?_;have m:Inv X pins σ f {s1 with heap:=h1}:=c.kept (t':=s1.toks) kp;refine⟨_,_,_,_,f,rfl,m,C_ a1 n s1.heap.objs.size,⟨l,C,⟨_,_,t⟩,A,B⟩,λd hd=>?_,q⟩;have :s1.heap.objs.size<=d:=by simp only[zQ34,zQ16,or_false]at hd;rcases hd with z|z|z|z|z<;>rw[z]<;>first|exact Nat.le_add_right _ _|exact zQ04 _
 exact c.KH this (c.bV.fresh this)
theorem qv:bootBuiltins "tuple"=some (.type "tuple"):=by decide+kernel
theorem yN:bootBuiltins "int"=some (.type "int"):=by decide+kernel
theorem uy:bootBuiltins "str"=some (.type "str"):=by decide+kernel
theorem jQ:bootBuiltins "list"=some (.type "list"):=by decide+kernel
theorem Pz:bootBuiltins "set"=some (.type "set"):=by decide+kernel
theorem cz:bootBuiltins "len"=some (.builtin "len"):=by decide+kernel
theorem bK:bootBuiltins "isinstance"=some (.builtin "isinstance"):=by decide+kernel
theorem N5:bootBuiltins "all"=some (.builtin "all"):=by decide+kernel
theorem Hf:bootBuiltins "max"=some (.builtin "max"):=by decide+kernel
theorem Dj:bootBuiltins "sorted"=some (.builtin "sorted"):=by decide+kernel
def Df(K:PySem.W.Frag)(mg:Str->Option Value)(x:Str)(st:Stmt)(ps:List Str):Prop:=∃f fd,Lu K x x st f fd/\mg x=some (.ref f)/\Binds K fd ps []
noncomputable def bB(P:Program)(w:World)(K:PySem.W.Frag)(mg:Str->Option Value)(CX:wm)(x:Str)(k:Nat)(ps:List Str)(sp:Sp):Prop:=∃f fd,(∀base,sH P w K mg base CX k f fd ps sp)/\mg x=some (.ref f)/\PySem.W.keepIn K (.ref f)=true/\Binds K fd ps []
section
variable{P:Program}{w:World}{K:PySem.W.Frag}{mg:Str->Option Value}
theorem Df.ok{x:Str}{st:Stmt}{N ps:List Str}{k:Nat}{sp:Sp}(D:Df K mg x st ps)(S:aT N ps (aw st))(len:∀vs H Q E,sp vs H Q E->vs.length=ps.length)(a:∀(base:Heap)(f:Addr)(dh:Value)(A:Around)(outer:List Env)(s:Shared)(H:Hp)(vs:List V)(Q:VK)(E:XK),dQ k (A.deeper (envOfC x (aw st) s.heap.objs.size f dh))->sp vs H Q E->∃t,kq (f9 bJ P w K mg base N x (aw st) f dh A outer s H E).L6 (cY st) t/\t {nx:=λ_ H'=>Q .bz H',rt:=Q} (start N vs) H):bB P w K mg bJ x (k+1) ps sp:=by obtain⟨f,fd,F,m,b⟩:=D;exact⟨f,fd,λbase=>F.ok S len (a base f),m,F.kp,b⟩
theorem bB.never{x:Str}{st:Stmt}{ps:List Str}{sp:Sp}{k:Nat}{CX:wm}(D:Df K mg x st ps)(no:∀vs H Q E,¬sp vs H Q E):bB P w K mg CX x k ps sp:=by obtain⟨f,fd,F,m,b⟩:=D;exact⟨f,fd,λbase=>⟨λvs H Q E h=>absurd h (no vs H Q E),λA outer s H args us vs Q E _ _ _ _ h=>absurd h (no vs H Q E)⟩,m,F.kp,b⟩
end
noncomputable def C5(h:Heap)(H:Hp)(fs:List Addr):Heap:=PySem.W.hideAll (rl h H) fs
theorem xM{h:Heap}{H:Hp}{fs:List Addr}{b:Addr}{o:Obj}(e:h.get? b=some o)(n:H b=none)(a:b∉fs):(C5 h H fs).get? b=some o:=PySem.W.hideAll_get _ (xa e n) a
theorem Kf{h:Heap}{H:Hp}{fs:List Addr}{b:Addr}{o:Obj}(e:(C5 h H fs).get? b=some o):h.get? b=some o/\H b=none:=CC (PySem.W.of_hideAll fs e)
theorem Dp(h:Heap)(H:Hp)(fs:List Addr):(C5 h H fs).objs.size=h.objs.size:=(PySem.W.hideAll_size _ _).trans (tI h H)
theorem jD{h B c:Heap}:∀{l:List Env},h.FunFrames B l->(∀L∈iY l,c.get? L=none)->h.FunFrames c l|[],_,_=>trivial|env::l,⟨d,⟨L,o,a,_,ho,hd⟩,hr⟩,hn=>⟨d,⟨L,o,a,hn L (by unfold iY;rw[List.filterMap_cons,a];exact cT),ho,hd⟩,jD hr λb hb=>hn b (by unfold iY at hb⊢;rw[List.filterMap_cons,a];exact dB _ hb)⟩
theorem XD{X:Cx}{pins:List (Addr×Obj)}{σ:L2.St}{H:Hp}{s:Shared}(I:Inv X pins σ H s)(hc:X.calm=true):E7 X.prog X.w X.K X.mg (C5 s.heap H (iY X.stack)) X.A X.stack s H:=by
 have l:∀b o,X.base.get? b=some o->b∉iY X.stack:=λb o e z=>by
  rcases List.mem_cons.mp (I.gY b z)with z|z;·have :=zQ07 e;rw[z]at this;exact absurd this (Nat.not_lt.mpr (cB I.ok.D3 I.ok.above))
  ·exact I.ok.RW e z
 have c:∀b o,X.base.get? b=some o->(C5 s.heap H (iY X.stack)).get? b=some o:=λb o e=>xM (I.bs b o e).1 (I.bs b o e).2 (l b o e);obtain⟨mb,f,g⟩:=I.ok.mod.blt;refine⟨I.ok.frames,⟨I.ok.mod.Ic.keeps c,I.ok.mod.glob.keeps c,⟨mb,f.keeps c,g⟩,I.ok.mod.nolimit.keeps c,I.ok.mod.bm.keeps c⟩,λb o e=>Kf e,Nat.le_of_eq (Dp _ _ _),jD I.stack λL k=>PySem.W.hideAll_none _ k,I.uI,I.bV,I.bare,?_⟩;rcases I.ok.hd hc with h|⟨a,oe,vs,i,d,j⟩;·exact .inl h
 ·refine .inr ⟨a,oe,vs,i,?_,j⟩;rcases d with d|d;·exact c a oe d
  ·obtain⟨q1,q2,q3,q4,_⟩:=I.pin (a,oe) (sD _ d);refine xM q1 q2 λz=>?_;rcases List.mem_cons.mp (I.gY a z)with z|z;·exact q3 z
   ·exact q4 z
theorem Cd{X:Cx}{CX:wm}{k:Nat}{f:Addr}{fd:FuncData}{ps:List Str}{sp:Sp}{E:XK}{pins:List (Addr×Obj)}{σ:L2.St}{H:Hp}{s:Shared}{Q:VK}{us:List Value}{vs:List V}{a:Value->Shared->Prop}(F:∀base,sH X.prog X.w X.K X.mg base CX k f fd ps sp)(hr:dQ k X.A)(hb:Binds X.K fd ps [])(I:Inv X pins σ H s)(hc:X.calm=true)(c:∀e s',CX X.A.handled X.stack H s E e s'->a e s')(r:Vals vs us)(h:sp vs H Q E):wpAny (model X.prog X.w) X.A (call (.ref f) us) (EP X pins σ Q) a s:=by
 have hl:us.length=ps.length:=by rw[<-r.length];exact(F (C5 s.heap H (iY X.stack))).len _ _ _ _ h
 have b:=hb s us I.lD (by rw[gg];exact hl);rw[gg]at b;refine wpAny_call (codeAny_mono ((F _).run X.A X.stack s H ⟨us,[]⟩ us vs Q E hr (XD I hc) b r h) λr s' hq=>?_);cases r with|error e=>exact c e s' hq|ok fl=>cases fl with|ret u=>exact I.after hq|next=>exact False.elim hq|brk=>exact False.elim hq|cont=>exact False.elim hq
theorem aS{X:Cx}{CX:wm}{x:Str}{k:Nat}{ps:List Str}{sp:Sp}{E:XK}{e:Expr}{es:List Expr}{t:TA}{p c:Pos}(F:bB X.prog X.w X.K X.mg CX x k ps sp)(hr:dQ k X.A)(i:Gl X x)(l:Passes CX X E)(ha:PA X (e::es) t)(g:(x==("__debug__":Str))=false:=by decide)(he:starEach (e::es) X.env=(false,eval e X.env)::starEach es X.env:=by rfl)(j:(backTo c (starEach es X.env)).any (·.1)=false:=by rfl)(hc:X.calm=true:=by rfl):PE X (.Call (.Name x p) (e::es) [] c) (LX sp [] E t):=by obtain⟨f,fd,F,m,kp,b⟩:=F;intro pins s σ H Q I h;refine wpAny_Call_Name_kw (mR I i m ?_ g);refine PySem.W.callWith_K (h₀:=X.base) I.ok.mod.Ic kp (bL (ha c pins s σ H _ I h) λus s1⟨vs,d,a,r,q⟩=>⟨a.lD,?_⟩) he j;have q:sp (vs++[]) d Q E:=q;rw[gg]at q;exact Cd F hr b a hc (λe s' hc=>l pins σ d s1 e s' a hc) r q
theorem Jb{X:Cx}{x:Str}{i:Int}{b:Pos}(hm:∃t,X.mg x=some (.int i t))(a:Gl X x)(hd:(x==("__debug__":Str))=false:=by decide):PE X (.Name x b) (tC (.int i)):=by obtain⟨t,hm⟩:=hm;exact vE a hm ⟨t,rfl⟩ hd
theorem u_{X:Cx}{x:Str}{z:Str}{b:Pos}(hm:∃t,X.mg x=some (.str z t))(a:Gl X x)(hd:(x==("__debug__":Str))=false:=by decide):PE X (.Name x b) (tC (.str z)):=by obtain⟨t,hm⟩:=hm;exact vE a hm ⟨t,rfl⟩ hd
theorem bG{X:Cx}{x:Str}{a:Addr}{c:Pos}(hm:X.mg x=some (.ref a))(b:Gl X x)(hd:(x==("__debug__":Str))=false:=by decide):PE X (.Name x c) (tC (.ref a)):=vE b hm rfl hd
theorem xl{X:Cx}{x:Str}{n:String}{b:Pos}(hm:X.mg x=none)(hv:bootBuiltins x=some (.type n))(a:Gl X x)(hn:x≠"__name__":=by decide)(hd:(x==("__debug__":Str))=false:=by decide):PE X (.Name x b) (tC (.ty n)):=JV a hm hv rfl hn hd
noncomputable def E5(outer:List (Str×NameKind))(N N':List Str)(own:Nat)(fr:List Nat)(scope:Scope):Bool:=scope.names.all (λy=>y.2 != .cell&&(y.2 != .local||scope.names.lookup y.1==some .local)&&(y.2 != .free||outer.lookup y.1==some .cell||outer.lookup y.1==some .free))&&decide (N'.length=own+fr.length)&&(List.range fr.length).all (λj=>match fr[j]? with
 |some i=>match N'[own+j]? with|some x=>N[i]?==some x&&scope.names.lookup x==some .free|none=>false
 |none=>true)
theorem iV{X:Cx}{N N':List Str}{own:Nat}{fr:List Nat}{sc scope:Scope}(f:X.env.scope=sc)(c:X.N=N)(d:scope.kind= .function)(h:E5 sc.names N N' own fr scope=true):qF X N' own fr scope:=by
 unfold E5 at h;simp only[bE,List.all_eq_true,decide_eq_true_eq]at h;obtain⟨⟨h1,h2⟩,h3⟩:=h;subst c;refine⟨d,λy a=>?_,λy a e=>?_,λy a e=>?_,h2,λj i e=>?_⟩;·simpa using(h1 y a).1.1
 ·have :=(h1 y a).1.2;simpa[e]using this
 ·have :=(h1 y a).2;unfold Env.kindOf;rw[f];simpa[e]using this
 ·have hj:j<fr.length:=(List.getElem?_eq_some_iff.mp e).1;have :=h3 j (by simpa using hj);rw[e]at this;cases b:N'[own+j]? with|none=>simp[b]at this|some x=>simp only[b,bE,beq_iff_eq]at this;exact⟨x,rfl,this.1,this.2⟩
theorem C7(a v:Value):argsOk "max" ⟨[a],[(Str.ofString "default",v)]⟩:=by unfold argsOk;kernel_rfl
section
variable{prog:Program}{w:World}{A:Around}{E:Value->Shared->Prop}{s:Shared}
theorem yg{id:String}{b:Builtin}{args:List Value}{a:List (Str×Value)}{Q:Value->Shared->Prop}(g:builtinKind id=none)(h:plainId id=true)(hb:entryFor table id=some b)(ha:argsOk id ⟨args,a⟩)(hc:wpAny (model prog w) A.in1 (b ⟨args,a⟩) (λfin s'=>match fin with| .done f=>(match(Except.ok f:Result)with| .ok (.ret v)=>Q v s'| .ok _=>False| .error e=>E e s')| .again c=>c.quiet=true/\codeAny (model prog w) A c (λr s'=>match r with| .ok (.ret v)=>Q v s'| .ok _=>False| .error e=>E e s') s') E s):wpAny (model prog w) A (call (.builtin id) args a) Q E s:=by refine wpAny_call (codeAny_call_builtin h hb ?_);simp only[checkBuiltinCall,g];cases i:Manifest.signature? id with|none=>exact zQ02 hc|some d=>simp only[argsOk,i]at ha;have h2:Bind.checkArgs id d ⟨args,a⟩=pure ():=ha;show wpAny _ A.in1 (Bind.checkArgs id d ⟨args,a⟩) _ _ s;rw[h2];exact zQ02 hc
theorem IV{i j:Int}{t u:Tok}{Q:Value->Shared->Prop}(h:Q (.bool (decide (i>j))) s):wpAny (model prog w) A (richCompare .Gt (.int i t) (.int j u)) Q E s:=richCompare_gives (op:= .Gt) (typeIs_int s _ t) (typeIs_int s _ u) F.slot_int_gt F.entry_int_gt (F.args_int_gt_2 _ _) (gives_int_gt _ _ t u) (λx=>nomatch x) h
end
noncomputable def J9(m x:Int):Int:=if x>m then x else m
noncomputable def maxD(ns:List Int)(d:Int):Int:=match ns with|[]=>d|a::r=>r.foldl J9 a
def Ol(ns:List Int)(j:Nat)(l:Array Value):Prop:=(j=0/\l=#[])\/(0<j/\∃t,l=#[.int (maxD (ns.take j) 0) t, .int (maxD (ns.take j) 0) t])
theorem CW{l:List Int}(x d:Int)(h:l≠[]):maxD (l++[x]) d=J9 (maxD l d) x:=by cases l with|nil=>exact absurd rfl h|cons a r=>simp[maxD,List.foldl_append]
section
variable{prog:Program}{w:World}{A:Around}{R:Result->Shared->Prop}{I:Addr}{fp wr:List Addr}{P:Nat->Value->Prop}{St:Nat->Heap->Prop}
theorem CY{ns:List Int}{d:Value}(W:Walks prog w A.in1 I fp wr ns.length P St)(O:∀(i:Nat)v,P i v->∃x t,ns[i]?=some x/\v= .int x t)(S:Addr)(hSf:S∉fp):∀(k j:Nat)(s:Shared)(l:Array Value)(c:Nat),ns.length-j=k->j<=ns.length->St j s.heap->Ol ns j l->s.heap.get? S=some {cls:= .type "list",dict:=none,data:= .seq l c,slots:=#[]}->(∀v h' tk,(ns=[]/\v=d\/ns≠[]/\∃t,v= .int (maxD ns 0) t)->(∀b o,b∉wr->b≠S->s.heap.get? b=some o->h'.get? b=some o)->R (.ok (.ret v)) {s with heap:=h',toks:=tk})->codeAny (model prog w) A (.builtin "max.loop" ⟨[.ref I, .none, .ref S],[(Str.ofString "default",d)]⟩) R s:=by
 have K:S∉wr:=λh=>hSf (W.sub _ h);have M:(toString "max"++toString ".loop":String)="max.loop":=by decide
 intro k;induction k with
  |zero=>
   intro j s l c T hj y hb hS m;have p:j=ns.length:=by lia
   refine codeAny_builtin F.entry_max_loop ?_;rw[Around.under_plainId F.plain_max_loop _];show wpAny _ A.in1 (seqItems? (.ref S)>>=_) _ _ s;refine zQ00 (wpAny_seqItems hS rfl ?_);rcases hb with⟨G,rfl⟩|⟨G,t,rfl⟩;·show wpAny _ A.in1 (tryCatch (pyNext (.ref I)) _>>=_) _ _ s;refine zQ00 (wpAny_tryCatch (W.done s _ _ (p▸y) λh' tk f=>?_));show wpAny _ A.in1 (rule _>>=_) _ _ _;refine zQ00 (wpAny_rule (zQ02 ?_));have e:ns=[]:=List.eq_nil_of_length_eq_zero (by lia);exact m d _ tk (.inl ⟨e,rfl⟩) λb o a g q=>f b o a q
   ·show wpAny _ A.in1 (tryCatch (pyNext (.ref I)) _>>=_) _ _ s;refine zQ00 (wpAny_tryCatch (W.done s _ _ (p▸y) λh' tk f=>?_));have hS':=f S _ K hS;show wpAny _ A.in1 (updateSeq S (λ_=>#[])>>=_) _ _ _;refine zQ00 ?_;refine wpAny_updateSeq hS' rfl (zQ00 (wpAny_letGo (zQ02 ?_)));have e:ns≠[]:=λz=>by rw[z]at p;simp at p;lia
    refine m _ _ tk (.inr ⟨e,t,by rw[p,List.take_length]⟩) λb o a g q=>(gF _ _ (Ne.symm g)).trans (f b o a q)
  |succ k N=>
   intro j s l c T hj y hb hS m;have hlt:j<ns.length:=by lia
   refine codeAny_builtin F.entry_max_loop ?_;rw[Around.under_plainId F.plain_max_loop _];show wpAny _ A.in1 (seqItems? (.ref S)>>=_) _ _ s;refine zQ00 (wpAny_seqItems hS rfl ?_);have Q:∀x,ns[j]?=some x->ns.take (j+1)=ns.take j++[x]:=λx C=>by rw[List.take_add_one,C];rfl
   rcases hb with⟨G,rfl⟩|⟨G,t,rfl⟩
   ·show wpAny _ A.in1 (tryCatch (pyNext (.ref I)) _>>=_) _ _ s;refine zQ00 (wpAny_tryCatch (W.item j s _ _ hlt y λv h' tk J H f=>?_));obtain⟨x,u,C,rfl⟩:=O j v J;have hS':=f S _ K hS;show wpAny _ A.in1 (updateSeq S (λ_=>#[.int x u, .int x u])>>=_) _ _ _;refine zQ00 ?_;refine wpAny_updateSeq hS' rfl ?_;rw[M];refine zQ02 ⟨plainId_quiet F.plain_max_loop _,N (j+1) _ _ _ (by lia) hlt (W.frame _ _ _ H λb L o e=>?_) (.inr ⟨by lia,u,?_⟩) (mv _ hS' rfl) λE n D B r=>?_⟩;·exact(gF _ _ (λh:S=b=>hSf (by rw[h];exact L))).trans e
    ·rw[Q x C,G];rfl
    ·exact m E n D B λb o a g e=>r b o a g ((gF _ _ (Ne.symm g)).trans (f b o a e))
   ·show wpAny _ A.in1 (tryCatch (pyNext (.ref I)) _>>=_) _ _ s;refine zQ00 (wpAny_tryCatch (W.item j s _ _ hlt y λv h' tk J H f=>?_));obtain⟨x,u,C,rfl⟩:=O j v J;have hS':=f S _ K hS;have ne:ns.take j≠[]:=λz=>by
     have :(ns.take j).length=0:=by rw[z];rfl
     rw[iP]at this;lia
    have em:maxD (ns.take (j+1)) 0=J9 (maxD (ns.take j) 0) x:=by rw[Q x C,CW x 0 ne]
    show wpAny _ A.in1 (tryCatch (holding [.int x u, .int x u] (richCompare .Gt (.int x u) (.int (maxD (ns.take j) 0) t)>>=_)) _>>=_) _ _ _;refine zQ00 (wpAny_tryCatch (eN (zQ00 (IV ?_))));refine zQ00 (eN (wpAny_truthy_bool ?_));refine zQ00 (wpAny_letGo (zQ02 ?_));by_cases hb:x>maxD (ns.take j) 0
    ·rw[decide_eq_true hb];simp only[if_true];refine zQ00 ?_;refine wpAny_updateSeq hS' rfl (zQ00 (wpAny_letGo ?_));rw[M];refine zQ02 ⟨plainId_quiet F.plain_max_loop _,N (j+1) _ _ _ (by lia) hlt (W.frame _ _ _ H λb L o e=>?_) (.inr ⟨by lia,u,?_⟩) (mv _ hS' rfl) λE n D B r=>?_⟩;·exact(gF _ _ (λh:S=b=>hSf (by rw[h];exact L))).trans e
     ·rw[em,J9,if_pos hb]
     ·exact m E n D B λb o a g e=>r b o a g ((gF _ _ (Ne.symm g)).trans (f b o a e))
    ·rw[decide_eq_false hb];simp only[Bool.false_eq_true,if_false];refine zQ00 (wpAny_letGo ?_);rw[M];refine zQ02 ⟨plainId_quiet F.plain_max_loop _,N (j+1) _ _ c (by lia) hlt H (.inr ⟨by lia,t,?_⟩) hS' λE n D B r=>?_⟩;·rw[em,J9,if_neg hb]
     ·exact m E n D B λb o a g e=>r b o a g (f b o a e)
end
theorem ints_get:∀{ns:List Int}{us:List Value},Vals (ns.map V.int) us->∀(i:Nat)(u:Value),us[i]?=some u->∃x t,ns[i]?=some x/\u= .int x t|[],_, .nil,i,u,e=>by simp at e|n::ns,_, .cons r t,0,u,e=>by obtain⟨tk,r⟩:=r;simp at e;exact⟨n,tk,rfl,by rw[<-e,r]⟩|n::ns,_, .cons r t,i+1,u,e=>by simpa using ints_get t i u (by simpa using e)
section
variable{X:Cx}{pins:List (Addr×Obj)}{σ:L2.St}{H:Hp}{s:Shared}
theorem Ea{p:Addr}{ns:List Int}{i:Int}{v:Value}{Q:VK}(hc:X.calm=true)(I:Inv X pins σ H s)(hq:aZ X.K H p (ns.map V.int))(D:RelV (.int i) v)(q:Q (.int (maxD ns i)) H):wpAny (model X.prog X.w) X.A (call (.builtin "max") [.ref p] [(Str.ofString "default",v)]) (EP X pins σ Q) X.xe s:=by
 obtain⟨m,r,C,E⟩:=I.list hq;have hl:=C.isList;have lt:p<s.heap.objs.size:=by obtain⟨o,e,_⟩:=hl;exact zQ07 e
 have B:∀a,X.A.in1.handled=some (.ref a)->a≠s.heap.objs.size:=λa c=>by
  rcases I.hb hc with z|⟨b,oe,vs,h,k,_⟩;·rw[show X.A.in1.handled=X.A.handled from rfl,z]at c;cases c
  ·rw[show X.A.in1.handled=X.A.handled from rfl,h]at c;cases c;exact zQ23 (zQ07 k)
 have y:(toString "max"++toString ".loop":String)="max.loop":=by decide
 refine yg F.kind_max F.plain_max F.entry_max (C7 _ _) ?_;show wpAny _ X.A.in1 (Builtin.Builtins.bindParams "max" ["key","default"] 0 ⟨[],[(Str.ofString "default",v)]⟩>>=_) _ _ s;refine zQ00 (wpAny_of_eq (show Builtin.Builtins.bindParams "max" ["key","default"] 0 ⟨[],[(Str.ofString "default",v)]⟩=pure [none,some v]from rfl) ?_);refine zQ00 (zQ02 ?_);refine zQ00 (wpAny_pyIter_list hl ?_);refine zQ00 (iW ?_);have len:m.toArray.size=ns.length:=by rw[cw,<-r.length,br]
 have l:=r9 (prog:=X.prog) (w:=X.w) (A:=X.A.in1) s.heap.objs.size p (zQ23 lt) m.toArray B;rw[len]at l;rw[y];have n:((s.heap.push {cls:= .type "list_iterator",data:= .fields #[.ref p, .int 0 0]}).objs.size)∉s.heap.objs.size::p::kg X.A.in1:=by
  rw[zQ28];intro z;rcases List.mem_cons.mp z with z|z;·exact Nat.succ_ne_self _ z
  ·rcases List.mem_cons.mp z with z|z;·rw[<-z]at lt;exact Nat.not_succ_lt_self lt
   ·have g:=rB z;rcases I.hb hc with q|⟨b,oe,vs,h,k,_⟩;·rw[show X.A.in1.handled=X.A.handled from rfl,q]at g;cases g
    ·rw[show X.A.in1.handled=X.A.handled from rfl,h]at g;cases g;exact Nat.not_succ_lt_self (zQ07 k)
 refine zQ02 ⟨plainId_quiet F.plain_max_loop _,CY (d:=v) l (λj u e=>ints_get r j u (by simpa using e)) _ n _ 0 _ #[] _ rfl (zQ27 _) ?_ (.inl ⟨rfl,rfl⟩) (zQ11 _ rfl) λu h' tk hv x=>?_⟩;·exact⟨⟨_,zQ01 _ (zQ11 _ rfl),rfl,rfl⟩,(hl.push _).push _,(I.hb hc).mono λa o _ eo=>zQ01 _ (zQ01 _ eo)⟩
 ·refine⟨.int (maxD ns i),H,I.kept (h':=h') (t':=tk) λb o f=>x b o (λhm=>?_) (λhm=>?_) (zQ01 _ (zQ01 _ f)),?_,q⟩;·rw[List.mem_singleton.mp hm]at f;exact Nat.lt_irrefl _ (zQ07 f)
  ·have :=zQ07 f;rw[hm,zQ28]at this;exact Nat.not_succ_lt_self this
  ·rcases hv with⟨rfl,rfl⟩|⟨hne,t,rfl⟩;·exact D
   ·refine⟨t,?_⟩;cases ns with|nil=>exact absurd rfl hne|cons a r=>rfl
end
noncomputable def UX(K:PySem.W.Frag)(t tk:TA):TE:=λσ H Q=>t σ H λvs b=>tk σ b λc a=>∃p ns i,vs=[.ref p]/\c=[.int i]/\aZ K a p (ns.map V.int)/\Q (.int (maxD ns i)) a
theorem Im{X:Cx}{e d:Expr}{t tk:TA}{p kp a:Pos}(hm:X.mg "max"=none)(ha:PA X [e] t)(j:PK X [⟨some (Str.ofString "default"),d,kp⟩] tk)(hc:X.calm=true:=by rfl)(g:Gl X "max":=by rfl)(he:starEach [e] X.env=[(false,eval e X.env)]:=by rfl):PE X (.Call (.Name "max" p) [e] [⟨some (Str.ofString "default"),d,kp⟩] a) (UX X.K t tk):=by intro pins s σ H Q I h;refine wpAny_Call_Name_kw (gr I g hm Hf ?_);refine callWith_kw (bL (ha a pins s σ H _ I h) λus s1⟨vs,b,c,k,q1⟩=>bL (j a pins s1 σ b _ c q1) λws s2⟨r,o,f,l,q2⟩=>?_) (by rw[he];rfl) (by rw[he];rfl);obtain⟨p,ns,i,rfl,rfl,hq,q⟩:=q2;obtain⟨u,rfl,m⟩:=k.one;cases m;obtain⟨v,rfl,n⟩:=l.one;exact Ea hc f hq n q
theorem xB{H a:Hp}{p:Addr}{o:HO}(h:aN H a)(c:H p=none):aN H (upd a p o):=λb u q=>by rw[bb (aC q c)];exact h b u q
theorem Hy{J:It}{p:Addr}{k:Hp}{g:TG}{z:TT}{w:TE}{b:L2.St}{C:Hp->Prop}(n:Nat)(f:Nat->Option V)(s:k p=none)(hn:n<=sizeLine)(D:∀i a,i<n->aN k a->J.go i a/\∀x h,J.DH i a x h->∀(R:V->Hp->Prop)(r:Hp->Prop),(∀v j,f i=some v->aN a j->R v j)->(∀d,f i=none->aN a d->r d)->g x b h λo q=>z o q λok d=>if ok=true then w o d R else r d)(hd:∀a,aN k a->a p=some (.lst ((List.range n).filterMap f))->J.stop n a/\C a):∃W:Nat->Nat->List V->Hp->Prop,(∃m,W 0 m [] (upd k p (.lst [])))/\∀i m c a,W i m c a->(J.stop i a/\C a)\/(J.go i a/\∀x h,J.DH i a x h->g x b h λo q=>z o q λok d=>if ok=true then w o d λv j=>j p=some (.lst c)/\c.length<sizeLine/\∃l,l<m/\W (i+1) l (c++[v]) (upd j p (.lst (c++[v])))else∃l,l<m/\W (i+1) l c d):=by
 refine Br (Q:=λ_ H=>C H) n (λi c a=>c=(List.range i).filterMap f/\a p=some (.lst c)/\aN k a) ⟨rfl,aj,aq s _⟩ ?_ ?_
 ·rintro i c a hi⟨rfl,h2,s2⟩;obtain⟨A,B⟩:=D i a hi s2;have E:((List.range i).filterMap f).length<sizeLine:=by have :=List.length_filterMap_le f (List.range i);rw[List.length_range]at this;lia
  refine⟨A,λx h y=>B x h y _ _ (λv j e u=>⟨u _ _ h2,E,nx hi ⟨?_,aj,xB (s2.trans u) s⟩⟩) λd e t=>nx hi ⟨?_,t _ _ h2,s2.trans t⟩⟩;·rw[List.range_succ,List.filterMap_append];simp[e]
  ·rw[List.range_succ,List.filterMap_append];simp[e]
 ·rintro c a⟨rfl,h2,s2⟩;exact hd a s2 h2
theorem eF{J:It}{p:Addr}{h:Hp}{g:TG}{s:TE}{b:L2.St}{C:Hp->Prop}(n:Nat)(f:Nat->V)(q:h p=none)(hn:n<=sizeLine)(w:∀i a,i<n->aN h a->J.go i a/\∀x d,J.DH i a x d->∀(R:V->Hp->Prop),(∀e,aN a e->R (f i) e)->g x b d λk l=>s k l R)(hd:∀a,aN h a->a p=some (.lst ((List.range n).map f))->J.stop n a/\C a):∃W:Nat->Nat->List V->Hp->Prop,(∃m,W 0 m [] (upd h p (.lst [])))/\∀i m c a,W i m c a->(J.stop i a/\C a)\/(J.go i a/\∀x d,J.DH i a x d->g x b d λk l=>N2 k l λok o=>if ok=true then s k o λv e=>e p=some (.lst c)/\c.length<sizeLine/\∃j,j<m/\W (i+1) j (c++[v]) (upd e p (.lst (c++[v])))else∃j,j<m/\W (i+1) j c o):=by
 refine Br (Q:=λ_ H=>C H) n (λi c a=>c=(List.range i).map f/\a p=some (.lst c)/\aN h a) ⟨rfl,aj,aq q _⟩ ?_ ?_;·rintro i c a hi⟨rfl,h2,s2⟩;obtain⟨t,u⟩:=w i a hi s2;refine⟨t,λx d y=>?_⟩;simp only[N2,if_true];refine u x d y _ λe r=>⟨r _ _ h2,by rw[br,List.length_range];lia,nx hi ⟨?_,aj,xB (s2.trans r) q⟩⟩;rw[List.range_succ,cO];rfl
 ·rintro c a⟨rfl,h2,s2⟩;exact hd a s2 h2
noncomputable def sk(xs a:List V):Bool:=decide (xs.length=a.length)&&(List.range xs.length).all λj=>EE ((xs[j]?).getD .bz) ((a[j]?).getD .bz)
noncomputable def XX(K:PySem.W.Frag):R2:=λx y H Q=>∃p q xs a,x= .ref p/\y= .ref q/\aZ K H p xs/\aZ K H q a/\xs.all gD=true/\a.all gD=true/\Q (.bl (!sk xs a)) H
theorem yF{X:Cx}(J:X.A.units+1<cLine):il X (compareOp .NotEq) (XX X.K):=by
 intro pins s σ H x y v u Q I D E h;obtain⟨p,q,xs,a,rfl,rfl,z,A,t,w,h⟩:=h;cases D;cases E;obtain⟨b,m,k,_⟩:=I.list z;obtain⟨f,n,l,_⟩:=I.list A;have l1:=m.length;have l2:=n.length;by_cases g:xs.length=a.length
 ·refine SeqAt.RcNeAt.lists k.isList l.isList (e:=λj=>EE ((xs[j]?).getD .bz) ((a[j]?).getD .bz)) (by simp;lia) (by lia) (λj h1 h2=>?_) _ _ _ _ ⟨.bl _,H,I,rfl,?_⟩
  ·have c:j<xs.length:=by simpa[l1]using h1
   have d:j<a.length:=by simpa[l2]using h2
   obtain⟨F,o,k1⟩:=m.get (i:=j) (x:=xs[j]) (by simp[c]);obtain⟨G,r,k2⟩:=n.get (i:=j) (x:=a[j]) (by simp[d]);have B:b.toArray[j]=F:=by
    have :b[j]?=some b.toArray[j]:=by simp
    rw[o]at this;exact(Option.some.inj this).symm
   have C:f.toArray[j]=G:=by
    have :f[j]?=some f.toArray[j]:=by simp
    rw[r]at this;exact(Option.some.inj this).symm
   rw[B,C];simp only[zQ03 c,zQ03 d,Option.getD_some];exact Hq k1 k2 (List.all_eq_true.mp t _ (List.getElem_mem c)) (List.all_eq_true.mp w _ (List.getElem_mem d))
  ·have e:sk xs a=(List.range b.toArray.size).all λj=>EE ((xs[j]?).getD .bz) ((a[j]?).getD .bz):=by unfold sk;rw[decide_eq_true g,Bool.true_and,cw,l1]
   rw[e]at h;exact h
 ·have e:sk xs a=false:=by unfold sk;rw[decide_eq_false g,Bool.false_and]
  rw[e]at h;exact SeqAt.RcNeAt.lists_lengths k.isList l.isList (by simp;lia) (by lia) _ _ _ _ ⟨.bl true,H,I,rfl,h⟩
end L3
end
section
namespace HT
open PySem PyProof.Rows
section
open PySem.SeqAt
open PySem.AutoSeq1(wpAny_loadPart')
open PySem.MeetsSeq PySem.MeetsSeq2 PySem.MeetsSeq3
variable{prog:Program}{w:World}{A:Around}{E:Value->Shared->Prop}{s:Shared}
theorem iy{t sl:Addr}{items:Array Value}{b c:Value}{lo hi:Option Int}{Q:Value->Shared->Prop}(ht:IsTup s.heap t items)(a:s.heap.IsSliceOf sl b c .none)(i:IsPart b lo)(j:IsPart c hi)(h1:cy items.size 0 lo=0)(h2:cy items.size items.size hi=items.size)(h:Q (.ref t) s):wpAny (model prog w) A (getItem (.ref t) (.ref sl)) Q E s:=by
 obtain⟨os,f,e,k⟩:=id a;have d:s.TypeIs (.ref sl) "slice":=⟨os,f,e⟩;unfold getItem;try with_reducible refine eN ?_
 first|refine zQ00 (zQ02 ?_)|skip
 refine zQ00 (wpAny_sequenceKey ht.typeIs (by decide) ?_);refine zQ00 (wpAny_callSpecial?_slot (name:=Str.ofString "__getitem__") ht.typeIs PyProof.Rows.slot_tuple_getitem (gj PyProof.Rows.slot_tuple_getitem ht.typeIs entry_tuple_getitem ?_ (args_tuple_getitem _ _)));show wpAny _ _ (Builtin.Tuple.tupleItemsOf (.ref t)>>=_) _ _ s;refine zQ00 (tupleItemsOf_ ht ?_);refine zQ00 (wpAny_typeOf d ?_);rw[if_pos (by decide)];refine zQ00 (fV a i j ?_);have g:(((cy items.size 0 lo:Nat):Int)==0&&(1:Int)==1&&(cy items.size items.size hi-cy items.size 0 lo)==items.size)=true:=by rw[h1,h2];simp
 show wpAny _ _ (if(((cy items.size 0 lo:Nat):Int)==0&&(1:Int)==1&&(cy items.size items.size hi-cy items.size 0 lo)==items.size)=true then _ else _) _ _ s;rw[if_pos g];show wpAny _ _ (Builtin.Tuple.tupleIsExact (.ref t)>>=_) _ _ s;refine zQ00 ?_;unfold Builtin.Tuple.tupleIsExact;refine zQ00 (wpAny_typeOf ht.typeIs (zQ02 ?_));rw[if_pos (by decide)];exact zQ00 (wpAny_rule (zQ02 ⟨_,rfl,zQ02 h⟩))
end
end HT
end
section
namespace L3
open PySem PySem.Spec PyProof.Rows L2
noncomputable def YN(K:PySem.W.Frag):V->Option Int->Option Int->Hp->VK->Prop:=λx lo hi H Q=>∃a xs,x= .ref a/\cN K H a xs/\(∀p,H p=none->Q (.ref p) (upd H p (.tup (hU xs lo hi))))/\(hU xs lo hi=xs->Q (.ref a) H)
theorem JY{X:Cx}:V6 X (YN X.K):=by
 intro pins s σ H x v i j lo hi sl Q I f b d e h;obtain⟨a,xs,rfl,c,q1,q2⟩:=h;by_cases hw:HT.cy xs.length 0 lo=0/\HT.cy xs.length xs.length hi=xs.length
 ·cases f;obtain⟨g,r,ht,k⟩:=I.tuple c;have hlen:g.toArray.size=xs.length:=by rw[cw];exact r.length.symm
  refine⟨"tuple",_,PyProof.Rows.slot_tuple_getitem.lookup,ht.typeIs,?_⟩;refine HT.iy ht b d e (by rw[hlen];exact hw.1) (by rw[hlen];exact hw.2) ⟨.ref a,H,I,rfl,q2 ?_⟩;unfold hU;rw[hw.1,hw.2,List.drop_zero,Nat.sub_zero,List.take_length]
 ·exact PZ pins s σ H _ v i j lo hi sl Q I f b d e ⟨a,xs,rfl,c,hw,q1⟩
theorem tR(xs:List V)(k:Nat):hU xs (some (k:Int)) none=xs.drop k:=by
 unfold hU;rw[HT.wJ,HT.pA];by_cases h:k<=xs.length;·rw[Nat.min_eq_left h];exact rj (by rw[ko];lia)
 ·rw[Nat.min_eq_right (by lia),List.drop_eq_nil_of_le (zQ04 _),List.drop_eq_nil_of_le (show xs.length<=k by lia)];simp
theorem A3(xs:List V)(k:Nat):hU xs none (some (k:Int))=xs.take k:=by
 unfold hU;rw[HT.wJ,HT.pA,List.drop_zero,Nat.sub_zero];by_cases h:k<=xs.length;·rw[Nat.min_eq_left h]
 ·rw[Nat.min_eq_right (by lia),rj (zQ04 _),rj (show xs.length<=k by lia)]
section
variable{X:Cx}{K:PySem.W.Frag}
theorem Gu(a:X.K=K:=by rfl):T4 X (Tg K):=by subst a;exact bH
theorem sU(a:X.K=K:=by rfl):il X (compareOp .NotIn) (rIn K true):=by subst a;exact eh
end
theorem JX{X:Cx}:il X (binaryOp .Mult) (λx y H Q=>∃z n,x= .str z/\y= .int n/\MulOk z n/\Q (.str (Txt.mul z n)) H):=by intro pins s σ H x y v u Q I a b h;obtain⟨z,n,rfl,rfl,hm,q⟩:=h;obtain⟨t,rfl⟩:=a;obtain⟨t',rfl⟩:=b;exact SB.mul hm λt' k=>⟨.str (Txt.mul z n),H,I.tok k,⟨t',rfl⟩,q⟩
theorem Bk{b:Type}{xs:List b}{m:Int}(c:Int)(h:(xs.length:Int)=m)(a:0<m):∃v,gP xs (c%m)=some v/\v∈xs:=by
 have d:0<=c%m:=Int.emod_nonneg _ (by lia);have i1:c%m<m:=Int.emod_lt_of_pos _ a;have hi:(c%m).toNat<xs.length:=by lia
 have e:c%m=(((c%m).toNat:Nat):Int):=by lia
 have h:gP xs (((c%m).toNat:Nat):Int)=some xs[(c%m).toNat]:=aF (zQ03 hi);exact⟨xs[(c%m).toNat],(congrArg (gP xs) e).trans h,List.getElem_mem hi⟩
noncomputable def md:List Nat->Nat|[]=>0|a::r=>max a (md r)
theorem xu:∀(l:List Nat)(a:Nat),(l.map λ(n:Nat)=>(n:Int)).foldl J9 (a:Int)=((max a (md l):Nat):Int)
 |[],a=>by simp[md]
 |b::l,a=>by
  rw[cF,List.foldl_cons];have e:J9 (a:Int) (b:Int)=((max a b:Nat):Int):=by unfold J9;split<;>lia
  rw[e,xu l,md];congr 1;exact Nat.max_assoc _ _ _
theorem FQ(l:List Nat):maxD (l.map λ(n:Nat)=>(n:Int)) 0=((md l:Nat):Int):=by cases l with|nil=>rfl|cons a r=>show(r.map λ(n:Nat)=>(n:Int)).foldl J9 (a:Int)=_;rw[xu];rfl
end L3
end
section
namespace L3
open PySem PySem.Spec L2
variable{K:PySem.W.Frag}
def PR(K:PySem.W.Frag)(a:Addr)(xs:List V):Prop:=∃(o:Obj)(b:Array Value)(n:Nat),K.lookup a=some o/\o.cls= .type "tuple"/\o.data= .seq b n/\b.size<=sizeLine/\Vals xs b.toList
structure KD(K:PySem.W.Frag)(a:Addr)(rows:List (Str×List V))(as:List Addr):Prop where
 len:as.length=rows.length
 tab:iB K a ((rows.zip as).map λp=>(p.1.1,V.ref p.2))
 sq:∀p∈rows.zip as,PR K p.2 p.1.2
theorem kc{d g:Type}{x:Str}(f:(Str×d)×g->V):∀(rows:List (Str×d))(as:List g),as.length=rows.length->(∃r a,(r,a)∈rows.zip as/\r.1=x/\rows.lookup x=some r.2/\PyProof.Rows.KTD.datumAt x ((rows.zip as).map λp=>(p.1.1,f p))=some (f (r,a)))\/(rows.lookup x=none/\PyProof.Rows.KTD.datumAt x ((rows.zip as).map λp=>(p.1.1,f p))=none)
 |[],_,_=> .inr ⟨rfl,rfl⟩
 |(k,v)::rows,[],h=>by simp at h
 |(k,v)::rows,a::as,h=>by
  have i:=kc (x:=x) f rows as (by simpa using h);by_cases e:x=k;·subst e;exact .inl ⟨(x,v),a,cT,rfl,by simp[List.lookup],by simp[PyProof.Rows.KTD.datumAt]⟩
  ·have c:(x==k)=false:=by simpa using e
   have j:¬k=x:=λz=>e z.symm;rcases i with⟨r,b,h1,h2,h3,h4⟩|⟨h1,h2⟩;·exact .inl ⟨r,b,dB _ h1,h2,by rw[iO,c];exact h3,by simp only[List.zip_cons_cons,cF,PyProof.Rows.KTD.datumAt,e,decide_false,Bool.false_eq_true,if_false];exact h4⟩
   ·exact .inr ⟨by rw[iO,c];exact h1,by simp only[List.zip_cons_cons,cF,PyProof.Rows.KTD.datumAt,e,decide_false,Bool.false_eq_true,if_false];exact h2⟩
theorem KD.some{a:Addr}{rows:List (Str×List V)}{as:List Addr}(T:KD K a rows as){x:Str}{ds:List V}(h:rows.lookup x=Option.some ds):∃b,PyProof.Rows.KTD.datumAt x ((rows.zip as).map λp=>(p.1.1,V.ref p.2))=Option.some (.ref b)/\∀H,cN K H b ds:=by
 rcases kc (x:=x) (λp=>V.ref p.2) rows as T.len with⟨r,b,h1,h2,h3,h4⟩|⟨h1,_⟩;·rw[h]at h3;cases h3;exact⟨b,h4,λH=> .inr (T.sq _ h1)⟩
 ·rw[h]at h1;cases h1
theorem KD.f_{a:Addr}{rows:List (Str×List V)}{as:List Addr}(T:KD K a rows as)(x:Str):L3.f_ x ((rows.zip as).map λp=>(p.1.1,V.ref p.2))=(rows.lookup x).isSome:=by
 unfold L3.f_;rcases kc (x:=x) (λp=>V.ref p.2) rows as T.len with⟨r,b,h1,h2,h3,h4⟩|⟨h1,h2⟩;·rw[h3,h4];rfl
 ·rw[h1,h2];rfl
noncomputable def aO:List V->List Value->Bool|[],[]=>true| .str x::vs, .str y _::us=>decide (x=y)&&aO vs us| .int i::vs, .int j _::us=>decide (i=j)&&aO vs us|_,_=>false
theorem iL:∀{vs:List V}{us:List Value},aO vs us=true->Vals vs us|[],[],_=> .nil| .str x::vs, .str y t::us,h=>by simp only[aO,bE,decide_eq_true_eq]at h;obtain⟨rfl,h⟩:=h;exact .cons ⟨t,rfl⟩ (iL h)| .int x::vs, .int y t::us,h=>by simp only[aO,bE,decide_eq_true_eq]at h;obtain⟨rfl,h⟩:=h;exact .cons ⟨t,rfl⟩ (iL h)|[],_::_,h=>by simp[aO]at h|_::_,[],h=>by simp[aO]at h| .bz::_,_::_,h=>by simp[aO]at h| .bl _::_,_::_,h=>by simp[aO]at h| .DZ _::_,_::_,h=>by simp[aO]at h| .PD _::_,_::_,h=>by simp[aO]at h| .ref _::_,_::_,h=>by simp[aO]at h| .ty _::_,_::_,h=>by simp[aO]at h| .str _::_, .none::_,h=>by simp[aO]at h| .str _::_, .int _ _::_,h=>by simp[aO]at h| .str _::_, .ref _::_,h=>by simp[aO]at h| .str _::_, .bool _::_,h=>by simp[aO]at h| .str _::_, .float _ _::_,h=>by simp[aO]at h| .str _::_, .bytes _ _::_,h=>by simp[aO]at h| .str _::_, .type _::_,h=>by simp[aO]at h| .str _::_, .builtin _::_,h=>by simp[aO]at h| .str _::_, .ellipsis::_,h=>by simp[aO]at h| .str _::_, .notImplemented::_,h=>by simp[aO]at h| .int _::_, .none::_,h=>by simp[aO]at h| .int _::_, .str _ _::_,h=>by simp[aO]at h| .int _::_, .ref _::_,h=>by simp[aO]at h| .int _::_, .bool _::_,h=>by simp[aO]at h| .int _::_, .float _ _::_,h=>by simp[aO]at h| .int _::_, .bytes _ _::_,h=>by simp[aO]at h| .int _::_, .type _::_,h=>by simp[aO]at h| .int _::_, .builtin _::_,h=>by simp[aO]at h| .int _::_, .ellipsis::_,h=>by simp[aO]at h| .int _::_, .notImplemented::_,h=>by simp[aO]at h
noncomputable def b_(vs:List V)(a:Array Value):Bool:=aO vs a.toList&&decide (a.size<=100)
theorem cx{K:PySem.W.Frag}{a:Addr}{d:Option Addr}{b:Array Value}{n:Nat}{sl:Array (Option Value)}{vs:List V}(h:K.lookup a=some ⟨.type "tuple",d, .seq b n,sl⟩)(c:b_ vs b=true):PR K a vs:=by simp only[b_,bE,decide_eq_true_eq]at c;exact⟨_,b,n,h,rfl,rfl,cB c.2 (by decide),iL c.1⟩
noncomputable def gy:List DictEntry->List Str->Bool|[],[]=>true|e::es,k::ks=>(match e.key,e.val with| .str x _, .ref _=>decide (x=k)|_,_=>false)&&gy es ks|_,_=>false
noncomputable def refsOf(es:List DictEntry):List Addr:=es.map λe=>match e.val with| .ref a=>a|_=>0
theorem Bx:∀{es:List DictEntry}{ks:List Str},gy es ks=true->PyProof.Rows.KTD.Rows RelV es ((ks.zip (refsOf es)).map λp=>(p.1,V.ref p.2))
 |[],[],_=> .nil
 |[],_::_,h=>by simp[gy]at h
 |_::_,[],h=>by simp[gy]at h
 |e::es,k::ks,h=>by
  obtain⟨c,a,val⟩:=e;rw[gy,bE]at h;cases a with
   |str x t=>
    cases val with
     |ref b=>
      have h1:x=k:=by simpa using h.1
      subst h1;exact .cons rfl rfl (Bx h.2)
     |_=>simp at h
   |_=>simp at h
theorem Ts{a:Addr}{es:Array DictEntry}{ep:Nat}{rows:List (Str×List V)}{as:List Addr}(d:(a==sysModules)=false)(b:K.lookup a=some ⟨.type "dict",none, .dict es ep,#[]⟩)(ks:gy es.toList (rows.map (·.1))=true)(c:refsOf es.toList=as)(hl:as.length=rows.length)(sq:∀p∈rows.zip as,PR K p.2 p.1.2):KD K a rows as:=by refine⟨hl,⟨d,_,es,ep,b,⟨rfl,rfl,rfl⟩,rfl,?_⟩,sq⟩;have h:=Bx ks;rw[c,List.zip_map_left,List.map_map]at h;exact h
theorem bO{r:Str×List V}{b:Addr}{rows:List (Str×List V)}{as:List Addr}(h:PR K b r.2)(t:∀p∈rows.zip as,PR K p.2 p.1.2):∀p∈(r::rows).zip (b::as),PR K p.2 p.1.2:=λp a=>by
 rcases List.mem_cons.mp a with rfl|a;·exact h
 ·exact t p a
theorem Nn:∀p∈([]:List (Str×List V)).zip ([]:List Addr),PR K p.2 p.1.2:=λp a=>by simp at a
noncomputable def gc:List DictEntry->List (Str×Int)->Bool|[],[]=>true|e::es,(k,i)::ks=>(match e.key,e.val with| .str x _, .int j _=>decide (x=k)&&decide (j=i)|_,_=>false)&&gc es ks|_,_=>false
theorem qd:∀{es:List DictEntry}{ks:List (Str×Int)},gc es ks=true->PyProof.Rows.KTD.Rows RelV es (ks.map λp=>(p.1,V.int p.2))
 |[],[],_=> .nil
 |[],_::_,h=>by simp[gc]at h
 |_::_,[],h=>by simp[gc]at h
 |e::es,(k,i)::ks,h=>by
  obtain⟨c,a,val⟩:=e;rw[gc,bE]at h;cases a with
   |str x t=>
    cases val with
     |int b u=>
      have h1:x=k/\b=i:=by simpa using h.1
      obtain⟨rfl,rfl⟩:=h1;exact .cons rfl ⟨u,rfl⟩ (qd h.2)
     |_=>simp at h
   |_=>simp at h
theorem JG{a:Addr}{es:Array DictEntry}{ep:Nat}{rows:List (Str×Int)}(c:(a==sysModules)=false)(b:K.lookup a=some ⟨.type "dict",none, .dict es ep,#[]⟩)(ks:gc es.toList rows=true):iB K a (rows.map λp=>(p.1,V.int p.2)):=⟨c,_,es,ep,b,⟨rfl,rfl,rfl⟩,rfl,qd ks⟩
end L3
end
section
namespace L3
open PySem PySem.Spec PyProof.Rows L2
structure MadeX(h h':Heap)(e C:Addr)(hh:Option Value):Prop where
 keeps:∀b o,h.get? b=some o->h'.get? b=some o
 new:h.get? e=none
 there:∃oe vs t c,h'.get? e=some oe/\oe.cls= .ref C/\oe.data= .fields vs/\vs[0]?=some (.ref t)/\vs[1]?=some .none/\vs[2]?=some c/\(hh=none->c= .none)
section
variable{prog:Program}{w:World}{A:Around}{E:Value->Shared->Prop}{s:Shared}
theorem DG{g:Type}{Q:g->Shared->Prop}{h₀:Heap}{e C:Addr}{vs:List Value}(hb:HB h₀ A)(hm:Heap.MadeExcOf h₀ s.heap e (.ref C) vs)(f:∀h',MadeX h₀ h' e C A.handled->E (.ref e) {s with heap:=h'}):wpAny (model prog w) A (raiseNew (.ref e):Sem g) Q E s:=by
 obtain⟨t,he,_,_⟩:=hm.there;simp only[raiseNew];refine zQ00 (wpAny_handled ?_);rcases hb with hb|⟨a,oe,ws,hb,c,h,i⟩;·rw[hb];refine zQ00 (zQ02 (wpAny_throw (f s.heap ⟨hm.keeps,hm.new,_,_,t,_,he,rfl,rfl,rfl,rfl,rfl,λ_=>rfl⟩)))
 ·rw[hb];have ne:a≠e:=λz=>by rw[z,hm.new]at c;cases c
  dsimp only;rw[if_pos (by simpa using ne)];refine zQ00 (eN (ye (hm.keeps _ _ c) h i ?_));refine zQ00 ?_;show wpAny (model prog w) A (setField (.ref e) 2 (.ref a)) _ _ _;refine wpAny_setField he rfl (by simp) (wpAny_throw (f _ ⟨λb o d=>?_,hm.new,_,_,t, .ref a,mv _ he (Obj.isFreed_of_fields (Obj.data_mapFields rfl _)),Obj.cls_mapFields _ _,Obj.data_mapFields rfl _,by simp,by simp,by simp,λz=>by rw[hb]at z;cases z⟩));rw[gF _ _ λz=>by rw[<-z,hm.new]at d;cases d];exact hm.keeps b o d
end
def yK(K:PySem.W.Frag)(C:Addr):Prop:=∃a newId b,ExcBaseFacts "ValueError" newId b a/\PySem.W.excIn K C a newId=true
theorem qg{K:PySem.W.Frag}{h:Heap}{C:Addr}{j:List Value}{newId:String}(X:K.In h)(q:PySem.W.excIn K C j newId=true):∃bm N nm g bs r i sub d e f a k1 k2 b c p,h.get? C=some (excClassObj nm g C N bs bm r i sub d e f a k1 k2 b c newId)/\h.Ns N p/\p "__init__"=none/\OwnTail h j bm:=by
 unfold PySem.W.excIn at q;split at q
 ·rename_i f cd sl ho;split at q
  ·rename_i t bm a k1 k2 b n c hm o;simp only[bE,beq_iff_eq,Bool.not_eq_true']at q;obtain⟨⟨⟨⟨⟨rfl,rfl⟩,k⟩,ht⟩,bV⟩,m⟩:=q;obtain⟨nm,bs,mro,ns,g,hd,i,sub,d,e,u⟩:=cd;dsimp only at hm k bV m;subst hm k;have s:sl=#[a,k1,k2,b,some (.builtin n),c]:=by obtain⟨l⟩:=sl;simp only at o;rw[o]
   subst s;exact⟨bm,ns,nm,g,bs,hd,i,sub,d,e,f,a,k1,k2,b,c,_,X _ _ ho, .of_isNs (PySem.W.isNs_of_in X bV),PySem.W.nsMap_none_of_in X bV m,PySem.W.tail_of_in X ht⟩
  ·cases q
 ·cases q
noncomputable def NU(G:Hp->Prop)(t:TA):TS:=λD σ H=>t σ H λvs a=>vs.length<=100/\G a
theorem Fj{X:Cx}{G:Hp->Prop}{x:Str}{C:Addr}{a:Expr}{t:TA}{m cP V:Pos}(A:yK X.K C)(hm:X.mg x=some (.ref C))(ha:PA X [a] t)(L:∀pins σ H s e h',Inv X pins σ H s->MadeX s.heap h' e C X.A.handled->G H->X.xe (.ref e) {s with heap:=h'})(hc:X.calm=true:=by rfl)(J:Gl X x:=by rfl)(E:(x==("__debug__":Str))=false:=by decide)(he:starEach [a] X.env=[(false,eval a X.env)]:=by rfl):PS X (.Raise (some (.Call (.Name x m) [a] [] cP)) none V) (NU G t):=by
 intro pins s σ H D I h;obtain⟨Z,newId,zh,FB,q⟩:=A;have R:wpAny (model X.prog X.w) X.A (eval (.Call (.Name x m) [a] [] cP) X.env) (λv s₁=>∃e t h₀ vs,v= .ref e/\X.K.In s₁.heap/\s₁.heap.get? e=some {cls:= .ref C,data:= .fields #[.ref t, .none, .none, .none, .bool false, .none]}/\HB h₀ X.A/\Heap.MadeExcOf h₀ s₁.heap e (.ref C) vs/\∀h',MadeX h₀ h' e C X.A.handled->X.xe (.ref e) {s₁ with heap:=h'}) X.xe s:=by refine wpAny_Call_Name_kw (mR I J hm ?_ E);have l:=ha cP pins s σ H _ I h;rw[he]at l⊢;unfold callWith;refine zQ00 (eN (Calls.evalArgs_plain (bL l λus s1⟨vs,n,f,r,hl,g⟩=>zQ00 (wpAny_standAt ?_))));obtain⟨bm,N,nm,W,bs,F,Y,sub,o,p,u,O,k1,k2,P,Q,S,b,i,j,T⟩:=qg f.lD q;have hb:=f.hb hc;have K:=L pins σ n s1;have Ic:=f.lD;obtain⟨k,w,d,tk,os⟩:=s1;show wpAny _ _ (keeperOf (.ref C)>>=_) _ _ _;refine zQ00 (wpAny_keeperOf_exc b ?_);refine zQ00 (wpAny_call_exc_subT (hrest:=by rw[List.nil_append,<-r.length];exact cB hl (by decide)) FB T b i j λh' e c=>zQ00 (eN (wpAny_point (zQ02 ?_))));obtain⟨t,ht,_,_⟩:=c.there;exact⟨e,t,k,_,rfl,Ic.keeps c.keeps,ht,hb,c,λy U=>K e y f U g⟩
 rw[arm_exec_Raise];refine zQ00 (wpAny_standAt ?_);unfold raiseStmt;refine zQ00 (zQ00 (bL R λv s₁ M=>zQ00 (wpAny_standAt (zQ02 ?_))));obtain⟨e,t,h₀,vs,rfl,Ic,he',hb,c,z⟩:=M;obtain⟨bm,N,nm,W,bs,F,Y,sub,o,p,u,O,k1,k2,P,Q,S,b,i,j,T⟩:=qg Ic q;have B:(Value.ref C::bm).contains (.type "BaseException")=true:=by rw[List.contains_cons,T.hasType FB.hasBase,Bool.or_true]
 obtain⟨k,w,d,tk,os⟩:=s₁;repeat(first|with_reducible refine wpAny_loadPart_at he' ?_|with_reducible refine wpAny_loadPart_at b ?_|(with_reducible refine wpAny_isSubtype_exc b ?_;rw[B])|wp_step)
 exact DG hb c z
def Ex(h:Heap)(a C:Addr)(T c:Value):Prop:=∃oe vs a0,h.get? a=some oe/\oe.cls= .ref C/\oe.data= .fields vs/\vs[0]?=some a0/\vs[1]?=some T/\vs[2]?=some c
def Tb(h:Heap)(T:Addr)(fl:Value):Prop:=∃a b,h.get? T=some a/\a.data= .fields b/\b[3]?=some fl
structure HH(fs:List Addr)(xs:List Addr)(h h':Heap):Prop where
 keep:∀b o,h.get? b=some o->b∉fs->b∉xs->h'.get? b=some o
 slot:∀b o,h.get? b=some o->b∈fs->b∉xs->∃sl,h'.get? b=some {o with slots:=sl}
section
variable{M:Model}{A:Around}{E:Value->Shared->Prop}{s:Shared}
theorem E3{base:Heap}{l:List Env}{b:Addr}{o:Obj}{vs:Array Value}(hl:s.heap.FunFrames base l)(e:s.heap.get? b=some o)(d:o.data= .fields vs):b∉iY l:=λhm=>by obtain⟨_,o',ho,a⟩:=hl.mem hm;rw[e]at ho;cases ho;exact a vs d
theorem tO{base:Heap}{env:Env}{outer:List Env}{L a C:Addr}{head T c:Value}{q:Bool}{Q:Unit->Shared->Prop}(t:A.frames=some (env::outer))(hl:s.heap.FunFrames base (env::outer))(r:env.frame=some L)(x:Ex s.heap a C T c)(h:∀h' T',Ex h' a C (.ref T') c->Tb h' T' (rawInt L)->s.heap.get? T'=none->T'≠a->HH (iY (env::outer)) [a] s.heap h'->Q () {s with heap:=h'}):wpAny M A (do let f<-frameOf env;let l<-entryPlaceOf L q;let b<-EntryCells.newEntry head f .none (rawInt L) .none l;setField (.ref a) 1 b) Q E s:=by
 obtain⟨oe,vs,a0,he,hc,hd,p,h1,h2⟩:=x;have hne:a∉iY (env::outer):=E3 hl he hd;refine zQ00 (wpAny_frameOf_fun t hl r λk1 d=>zQ00 (wpAny_entryPlaceOf λl j=>?_));unfold EntryCells.newEntry newFields;refine zQ00 (iW ?_ (j.sizeOk5 _ _ _ _ _));have i:k1.get? a=some oe:=(d.2.1 a hne).trans he;have sz:k1.objs.size=s.heap.objs.size:=d.1;have k:k1.objs.size≠a:=Nat.ne_of_gt (zQ07 i);refine wpAny_setField (zQ01 _ i) hd (Array.getElem?_eq_some_iff.mp h1).1 (h _ k1.objs.size ?_ ?_ ?_ k ?_)
 ·refine⟨_,_,a0,mv _ (zQ01 _ i) (Obj.isFreed_of_fields (Obj.data_mapFields hd _)),(Obj.cls_mapFields _ _).trans hc,Obj.data_mapFields hd _,?_,?_,?_⟩;·rw[Array.getElem?_setIfInBounds_ne (by decide)];exact p
  ·have :=(Array.getElem?_eq_some_iff.mp h1).1;simp[this]
  ·rw[Array.getElem?_setIfInBounds_ne (by decide)];exact h2
 ·refine⟨_,_,(gF _ _ (Ne.symm k)).trans (zQ11 _ rfl),rfl,?_⟩;first|(simp;done)|(rcases j with rfl|⟨_,_,_,_,_,_,_,rfl⟩<;>simp)
 ·rw[sz];exact Heap.get?_none_of_le (zQ04 _)
 ·refine⟨λb o e n m=>?_,λb o e n m=>?_⟩;·have g:k1.get? b=some o:=(d.2.1 b n).trans e;rw[gF _ _ λz=>m (by simp[z])];exact zQ01 _ g
  ·obtain⟨sl,g⟩:=d.2.2 b o e;refine⟨sl,?_⟩;rw[gF _ _ λz=>m (by simp[z])];exact zQ01 _ g
theorem zl{base:Heap}{env:Env}{outer:List Env}{L a C:Addr}{c:Value}{Q:Unit->Shared->Prop}(d:A.frames=some (env::outer))(hl:s.heap.FunFrames base (env::outer))(b:env.frame=some L)(x:Ex s.heap a C .none c)(h:∀h' T',Ex h' a C (.ref T') c->Tb h' T' (rawInt L)->s.heap.get? T'=none->T'≠a->HH (iY (env::outer)) [a] s.heap h'->Q () {s with heap:=h'}):wpAny M A (noteFrame (.ref a) env) Q E s:=by obtain⟨oe,vs,a0,he,hc,hd,e,h1,h2⟩:=id x;unfold noteFrame;simp only[b];refine zQ00 (c9 he hd h1 ?_);rw[if_neg (by decide)];exact tO d hl b x h
theorem DN{base:Heap}{env:Env}{outer:List Env}{L a C T:Addr}{c:Value}{Q:Unit->Shared->Prop}(p:A.frames=some (env::outer))(hl:s.heap.FunFrames base (env::outer))(i:env.frame=some L)(x:Ex s.heap a C (.ref T) c)(y:Tb s.heap T .none)(l:T≠a)(h:∀h' T',Ex h' a C (.ref T') c->Tb h' T' (rawInt L)->s.heap.get? T'=none->T'≠a->HH (iY (env::outer)) [a,T] s.heap h'->Q () {s with heap:=h'}):wpAny M A (noteFrame (.ref a) env) Q E s:=by
 obtain⟨oe,vs,a0,he,hc,hd,k,h1,h2⟩:=id x;obtain⟨B,t,hT,dT,h3⟩:=y;unfold noteFrame;simp only[i];refine zQ00 (c9 he hd h1 ?_);rw[if_pos (show(Value.ref T !=Value.none)=true from by simp)];refine zQ00 (c9 hT dT h3 ?_);rw[if_neg (show¬((Value.none==rawInt L)=true)from by simp[rawInt])];refine zQ00 (wpAny_setField hT dT (Array.getElem?_eq_some_iff.mp h3).1 ?_);have d:∀b,b≠T->(s.heap.update T (Obj.mapFields (·.setIfInBounds 3 Value.none))).get? b=s.heap.get? b:=λb hb=>gF _ _ (Ne.symm hb);have r:∀b o,s.heap.get? b=some o->(∀vs,o.data≠ .fields vs)->b≠T:=λb o hb f q=>by rw[q,hT]at hb;cases hb;exact f t dT
 refine tO (s:={s with heap:=s.heap.update T (Obj.mapFields (·.setIfInBounds 3 Value.none))}) p (hl.of_keeps λb o hb f=>⟨o,(d b (r b o hb f)).trans hb,rfl⟩) i ⟨oe,vs,a0,(d a (Ne.symm l)).trans he,hc,hd,k,h1,h2⟩ λh' T' u v g w j=>h h' T' u v ?_ w ⟨λb o e n m=>?_,λb o e n m=>?_⟩
 ·by_cases z:T'=T;·rw[z]at g;have :=mv (Obj.mapFields (·.setIfInBounds 3 Value.none)) hT (Obj.isFreed_of_fields (Obj.data_mapFields dT _));rw[g]at this;cases this
  ·rw[<-d T' z];exact g
 ·exact j.keep b o ((d b λz=>m (by simp[z])).trans e) n λz=>m (by simp at z;simp[z])
 ·exact j.slot b o ((d b λz=>m (by simp[z])).trans e) n λz=>m (by simp at z;simp[z])
theorem gN{a C T:Addr}{c fl:Value}{Q:Unit->Shared->Prop}(x:Ex s.heap a C (.ref T) c)(y:Tb s.heap T fl)(g:T≠a)(h:∀h',Ex h' a C (.ref T) c->Tb h' T .none->(∀b,b≠T->h'.get? b=s.heap.get? b)->Q () {s with heap:=h'}):wpAny M A (setFlight (.ref a) none) Q E s:=by obtain⟨oe,vs,a0,he,hc,hd,e,h1,h2⟩:=x;obtain⟨i,j,hT,dT,h3⟩:=y;have l3:=(Array.getElem?_eq_some_iff.mp h3).1;unfold setFlight;refine zQ00 (c9 he hd h1 ?_);rw[if_pos (show(Value.ref T !=Value.none)=true from by simp)];have d:∀b,b≠T->(s.heap.update T (Obj.mapFields (·.setIfInBounds 3 ((none:Option Addr).elim Value.none λf=>rawInt f)))).get? b=s.heap.get? b:=λb hb=>gF _ _ (Ne.symm hb);exact wpAny_setField hT dT l3 (h _ ⟨oe,vs,a0,(d a (Ne.symm g)).trans he,hc,hd,e,h1,h2⟩ ⟨_,_,mv _ hT (Obj.isFreed_of_fields (Obj.data_mapFields dT _)),Obj.data_mapFields dT _,by simp[l3]⟩ d)
theorem xx{base:Heap}{env:Env}{outer:List Env}{L a C:Addr}{c:Value}{Q:Unit->Shared->Prop}(l:A.frames=some (env::outer))(hl:s.heap.FunFrames base (env::outer))(k:env.frame=some L)(x:Ex s.heap a C .none c)(h:∀h' T',Ex h' a C (.ref T') c->Tb h' T' .none->s.heap.get? T'=none->T'≠a->HH (iY (env::outer)) [a] s.heap h'->Q () {s with heap:=h'}):wpAny M A (leaving env (.ref a)) Q E s:=by unfold leaving;refine zQ00 (zl l hl k x λh1 j p t d f i=>gN (s:={s with heap:=h1}) p t f λh2 r u g=>h h2 j r u d f ?_);refine⟨λb o e n m=>(g b λz=>by rw[z,d]at e;cases e).trans (i.keep b o e n m),λb o e n m=>?_⟩;obtain⟨sl,q⟩:=i.slot b o e n m;exact⟨sl,(g b λz=>by rw[z,d]at e;cases e).trans q⟩
end
theorem zr{P:Program}{w:World}{H:Hp}{h:Heap}{a:Addr}{o:HO}(x:bP P w H h a o):∃u,h.get? a=some u:=by
 cases o with
  |lst xs=>obtain⟨_,_,_,_,e⟩:=x;exact⟨_,e⟩
  |tup xs=>obtain⟨_,_,_,o,e,_⟩:=x;exact⟨_,e⟩
  |dK kvs=>obtain⟨_,_,_,_,o,_,_,e,_⟩:=x;exact⟨_,e⟩
  |dT kvs=>obtain⟨_,_,_,_,o,_,_,e,_⟩:=x;exact⟨_,e⟩
  |set S n=>obtain⟨o,_,_,_,e,_⟩:=x;exact⟨_,e⟩
  |ins C dx fs=>obtain⟨_,_,_,e,_⟩:=x;exact⟨_,e⟩
  |own y=>exact x
  |xd fs=>obtain⟨_,⟨_,_,_,e,_⟩,_⟩:=x;exact⟨_,e⟩
  |WC lo hi=>obtain⟨_,_,_,e⟩:=x;exact⟨_,e⟩
  |yU ob u=>obtain⟨e,_⟩:=x;exact⟨_,e⟩
  |DX ps=>cases ps with|tab q ln cl=>rcases x with e|⟨c,e,_⟩<;>exact⟨_,e⟩|code q=>obtain⟨c,o,vs,t,b,d,_⟩:=x;cases b;exact⟨_,d⟩
  |met f y=>exact⟨_,show h.get? a=some _ from x⟩
  |ext φ=>obtain⟨_,e,_⟩:=x;exact e
theorem jx{P:Program}{w:World}{H:Hp}{h:Heap}{a:Addr}(x:gJ P w H h)(e:h.get? a=none):H a=none:=by cases q:H a with|none=>rfl|some o=>obtain⟨u,z⟩:=zr (x a o q);rw[e]at z;cases z
theorem HH.any{fs xs:List Addr}{h h':Heap}(p:HH fs xs h h'){b:Addr}{o:Obj}(e:h.get? b=some o)(m:b∉xs):∃sl,h'.get? b=some {o with slots:=sl}:=by
 by_cases hb:b∈fs;·exact p.slot b o e hb m
 ·exact⟨o.slots,p.keep b o e hb m⟩
theorem J7{P:Program}{w:World}{H:Hp}{h h':Heap}{fs xs:List Addr}(x:gJ P w H h)(p:HH fs xs h h')(c:∀b∈fs,H b=none)(nx:∀b∈xs,H b=none):gJ P w H h':=λa o e=>by
 have st:∀b u,H b≠none->h.get? b=some u->h'.get? b=some u:=λb u n q=>p.keep b u q (λz=>n (c b z)) λz=>n (nx b z);refine(x a o e).sL (λb u hb q=>st b u ?_ q) (λ_ q=>q) λ_ _ q=>q;rcases hb with z|z;·rw[z,e];simp
 ·rw[z];simp
structure HY(X:Cx)(pins:List (Addr×Obj))(H:Hp)(b:Addr):Prop where
 un:H b=none
 new:X.bU.heap.get? b=none
 loc:b≠X.env.locals
 cel:∀x c,X.env.cells.lookup x=some c->c≠b
 pin:∀p∈X.pn++pins,p.1≠b
section
variable{X:Cx}{pins:List (Addr×Obj)}{σ:L2.St}{H H':Hp}{s s':Shared}{h':Heap}{a:Addr}
theorem jc(I:Inv X pins σ H s)(e:s.heap.get? a=none)(d:a∉X.ex)(hn:H' a=none):HY X pins H' a:=by
 refine⟨hn,?_,λz=>?_,λx c q z=>?_,λp b z=>?_⟩;·cases q:X.bU.heap.get? a with|none=>rfl|some o=>obtain⟨o',z⟩:=I.base.there a o q d;rw[e]at z;cases z
 ·obtain⟨m,⟨o,_,_,ho,_⟩,_⟩:=I.loc;rw[<-z,e]at ho;cases ho
 ·obtain⟨v,o,ho,_⟩:=I.cell x c q;rw[z,e]at ho;cases ho
 ·have :=(I.pin p b).1;rw[z,e]at this;cases this
theorem Inv.WT{ch:List Addr}(I:Inv X pins σ H s)(p:HH (iY X.stack) ch s.heap h')(hc:∀b∈ch,HY X pins H b):Inv X pins σ H {s with heap:=h'}:=by
 have j:∀b o,X.bU.heap.get? b=some o->b∉ch:=λb o e z=>by rw[(hc b z).new]at e;cases e
 have A:∀b o,X.bU.heap.get? b=some o->b∉X.fs->b∉iY X.stack:=λb o e hb z=>by
  rcases List.mem_cons.mp (I.gY b z)with q|q;·have :=zQ07 e;rw[q]at this;exact absurd this (Nat.not_lt.mpr I.ok.above)
  ·exact hb q
 have cellK:∀x c,X.env.cells.lookup x=some c->∀v,s.heap.IsCell c v->h'.IsCell c v:=λx c e v⟨o,ho,hd⟩=>by obtain⟨sl,q⟩:=p.any ho λz=>(hc c z).cel x c e rfl;exact⟨_,q,hd⟩
 refine⟨I.ok,I.os,I.bare,⟨λb o e n hb f=>?_,λb o e n hb f=>?_,λb o e n f=>I.base.free b o e n f,λb o e f=>?_,I.base.rd,I.base.ma,I.base.qB⟩,?_,λx c e=>?_,I.free,I.d7,λq hq=>?_,J7 I.bV p I.uI λb hb=>(hc b hb).un,I.len⟩;·exact p.keep b o (I.base.keep b o e n hb f) (A b o e hb) (j b o e)
 ·obtain⟨sl,g⟩:=I.base.slot b o e n hb f;obtain⟨B,h⟩:=p.any g (j b o e);exact⟨B,h⟩
 ·obtain⟨o',g⟩:=I.base.there b o e f;obtain⟨sl,h⟩:=p.any g (j b o e);exact⟨_,h⟩
 ·obtain⟨m,⟨o,es,ep,ho,r⟩,hl⟩:=I.loc;obtain⟨sl,y⟩:=p.any ho λz=>(hc _ z).loc rfl;refine⟨m,⟨_,es,ep,y,r⟩,λi x v g h w=>?_⟩;obtain⟨u,r,l⟩:=hl i x v g h w;refine⟨u,r,?_⟩;rcases l with l|⟨k,c,e,z⟩;·exact .inl l
  ·exact .inr ⟨k,c,e,cellK x c e _ z⟩
 ·obtain⟨v,z⟩:=I.cell x c e;exact⟨v,cellK x c e v z⟩
 ·obtain⟨e,n,ne,t,d⟩:=I.pin q hq;exact⟨p.keep q.1 q.2 e (λz=>(List.mem_cons.mp (I.gY q.1 z)).elim ne t) λz=>(hc q.1 z).pin q hq rfl,n,ne,t,d⟩
end
structure L8(X:Cx)(pins:List (Addr×Obj))(H:Hp)(s:Shared)(a C T:Addr)(c fl:Value):Prop where
 ex:Ex s.heap a C (.ref T) c
 tb:Tb s.heap T fl
 ne:T≠a
 fa:HY X pins H a
 fT:HY X pins H T
noncomputable def sG(P:Program)(w:World):wm:=λhh outer H s E e s'=>∃(a C T:Addr)(c:Value)(H':Hp),e= .ref a/\s'.os=s.os/\AllBare s'.gens/\Un (iY outer) [] H H' s.heap s'.heap/\gJ P w H' s'.heap/\Ex s'.heap a C (.ref T) c/\(hh=none->c= .none)/\Tb s'.heap T .none/\T≠a/\H' a=none/\H' T=none/\s.heap.get? a=none/\s.heap.get? T=none/\E (.ref C) none H'
section
variable{X:Cx}{pins:List (Addr×Obj)}{σ:L2.St}{H:Hp}{s s':Shared}{E:XK}{e:Value}{hh:Option Value}
theorem N_(I:Inv X pins σ H s)(d:X.ex=[])(h:sG X.prog X.w hh X.stack H s E e s'):∃a C T c H',e= .ref a/\Inv X pins σ H' s'/\L8 X pins H' s' a C T c .none/\(hh=none->c= .none)/\E (.ref C) none H':=by obtain⟨a,C,T,c,H',rfl,os,bare,un,bV,ex,hc,tb,ne,g,f,fa,fT,q⟩:=h;refine⟨a,C,T,c,H',rfl,I.Lw os un bV bare (λb z=>absurd z (by simp)),⟨ex,tb,ne,jc I fa (by rw[d];simp) g,jc I fT (by rw[d];simp) f⟩,hc,q⟩
end
section
variable{P:Program}{w:World}{K:PySem.W.Frag}{mg:Str->Option Value}{base:Heap}{N:List Str}{qual:Str}{sc:Scope}{f:Addr}{cd:Value}{A:Around}{outer:List Env}{bU:Shared}{H₀:Hp}{E:XK}
theorem NH{σ:L2.St}{H:Hp}{s:Shared}{pins:List (Addr×Obj)}{a C T:Addr}{c:Value}{h':Heap}{ch:List Addr}(I:Inv (f9 (sG P w) P w K mg base N qual sc f cd A outer bU H₀ E) pins σ H s)(p:HH (iY (f9 (sG P w) P w K mg base N qual sc f cd A outer bU H₀ E).stack) ch s.heap h')(e:∀b∈ch,HY (f9 (sG P w) P w K mg base N qual sc f cd A outer bU H₀ E) pins H b)(fa:HY (f9 (sG P w) P w K mg base N qual sc f cd A outer bU H₀ E) pins H a)(ex:Ex h' a C (.ref T) c)(tb:Tb h' T .none)(d:s.heap.get? T=none)(ne:T≠a)(hc:A.handled=none->c= .none)(q:E (.ref C) none H):sG P w A.handled outer H₀ bU E (.ref a) {s with heap:=h'}:=by have J:=Inv.WT I p e;exact⟨a,C,T,c,H,rfl,J.os,J.bare,J.base,J.bV,ex,hc,tb,ne,fa.un,jx I.bV d,fa.new,(jc (H':=H) I d (by show T∉[];simp) (jx I.bV d)).new,q⟩
theorem JE{σ:L2.St}{H:Hp}{s:Shared}{pins:List (Addr×Obj)}{a C:Addr}{h':Heap}(I:Inv (f9 (sG P w) P w K mg base N qual sc f cd A outer bU H₀ E) pins σ H s)(m:MadeX s.heap h' a C A.handled)(q:E (.ref C) none H):(f9 (sG P w) P w K mg base N qual sc f cd A outer bU H₀ E).xe (.ref a) {s with heap:=h'}:=by have J:Inv (f9 (sG P w) P w K mg base N qual sc f cd A outer bU H₀ E) pins σ H {s with heap:=h'}:=I.kept (t':=s.toks) m.keeps;obtain⟨oe,vs,t,c,d,e,g,h,i,j,k⟩:=m.there;have fa:HY (f9 (sG P w) P w K mg base N qual sc f cd A outer bU H₀ E) pins H a:=jc I m.new (by show a∉[];simp) (jx I.bV m.new);refine xx J.ok.frames J.stack rfl ⟨oe,vs, .ref t,d,e,g,h,i,j⟩ λu T' l n o r p=>?_;exact NH (ch:=[a]) J p (λb hb=>by rw[List.mem_singleton.mp hb];exact fa) fa l n o r k q
theorem VL{N:List Str}:PassesOwn (model P w) (f9 (sG P w) P w K mg base N qual sc f cd A outer bU H₀ E).A (f9 (sG P w) P w K mg base N qual sc f cd A outer bU H₀ E).env (f9 (sG P w) P w K mg base N qual sc f cd A outer bU H₀ E).xe:=PassesOwn.leaving
end
theorem Df.okX{P:Program}{w:World}{K:PySem.W.Frag}{mg:Str->Option Value}{x:Str}{st:Stmt}{N ps:List Str}{k:Nat}{sp:Sp}(D:Df K mg x st ps)(S:aT N ps (aw st))(len:∀vs H Q E,sp vs H Q E->vs.length=ps.length)(a:∀(base:Heap)(f:Addr)(dh:Value)(A:Around)(outer:List Env)(s:Shared)(H:Hp)(vs:List V)(Q:VK)(E:XK),dQ k (A.deeper (envOfC x (aw st) s.heap.objs.size f dh))->sp vs H Q E->∃t,kq (f9 (sG P w) P w K mg base N x (aw st) f dh A outer s H E) (cY st) t/\t {nx:=λ_ H'=>Q .bz H',rt:=Q} (start N vs) H):bB P w K mg (sG P w) x (k+1) ps sp:=by obtain⟨f,fd,F,m,b⟩:=D;refine⟨f,fd,λbase=>?_,m,F.kp,b⟩;obtain⟨oc,od,kV,doc,pm,an,dh,ct,Gi,rfl,e,c⟩:=F.ex;exact LP e c S len λA outer s H vs Q E hr d=>a base f dh A outer s H vs Q E hr d
noncomputable abbrev xy(X:Cx)(a:Addr)(oe:Obj)(cm:Bool):Cx:={X with A:=X.A.mark (some (.ref a)),calm:=cm,pn:=(a,oe)::X.pn,xe:=λ_ _=>False}
section
variable{X:Cx}{pins:List (Addr×Obj)}{σ:L2.St}{H:Hp}{s:Shared}{a:Addr}{oe:Obj}{cm:Bool}
theorem Ri(ok:X.Ok)(hc:cm=true->∃vs,oe.data= .fields vs/\vs[2]?=some .none):(xy X a oe cm).Ok:=⟨ok.mod,ok.kind,ok.glob,ok.blt,ok.above,ok.inj,ok.has,ok.Q4,λh=>let⟨vs,b,c⟩:=hc h; .inr ⟨a,oe,vs,rfl, .inr cT,b,c⟩,ok.frames,ok.Sg,ok.Wk,ok.bs,ok.D3,ok.xI,ok.Du,ok.jd,ok.Ou⟩
theorem LQ(I:Inv X pins σ H s){vs:Array Value}(e:s.heap.get? a=some oe)(d:oe.data= .fields vs)(F:HY X pins H a)(hc:cm=true->∃vs,oe.data= .fields vs/\vs[2]?=some .none):Inv (xy X a oe cm) pins σ H s:=by
 refine⟨Ri I.ok hc,I.os,I.bare,I.base,I.loc,I.cell,I.free,I.d7,λp b=>?_,I.bV,I.len⟩;rcases List.mem_cons.mp (show p∈(a,oe)::(X.pn++pins)from b)with z|z;·rw[z];exact⟨e,F.un,F.loc,E3 I.jd e d,λv q=>by rw[d]at q;cases q⟩
 ·exact I.pin p z
theorem kz(ok:X.Ok)(I:Inv (xy X a oe cm) pins σ H s):Inv X pins σ H s:=⟨ok,I.os,I.bare,I.base,I.loc,I.cell,I.free,I.d7,λp b=>I.pin p (dB _ b),I.bV,I.len⟩
theorem Jl{m:Str->Option Value}{i:Nat}{n:Str}{v:Option Value}{h':Heap}{t':Nat}(I:Inv X pins σ H s)(C:X.N.Nodup)(hi:X.N[i]?=some n)(g:X.env.scope.names.lookup n=some .local)(hn:s.heap.Ns X.env.locals m)(hl:∀(i:Nat)(x:Str)(v:V),X.N[i]?=some x->σ[i]?=some (some v)->SM X.env.scope x->∃u,RelV v u/\Look X.env s.heap m x u)(hn':h'.Ns X.env.locals (λx=>if x=n then v else m x))(E:Heap.SameBut X.env.locals s.heap h'):Inv X pins (σ.set i none) H {s with heap:=h',toks:=t'}:=by
 have h:∀b o,b≠X.env.locals->s.heap.get? b=some o->h'.get? b=some o:=λb o n e=>(E.2 b n).trans e;have t:∀b o,X.bU.heap.get? b=some o->b≠X.env.locals:=λb o e=>zQ23 (eB (zQ07 e) I.ok.above);have cellK:∀x c,X.env.cells.lookup x=some c->∀v,s.heap.IsCell c v->h'.IsCell c v:=λx c e v⟨o,ho,hd⟩=>⟨o,h c o (I.MN x c e) ho,hd⟩;obtain⟨M,_,_,L,_⟩:=id hn';refine⟨I.ok,I.os,I.bare,⟨λb o e n hb g=>h b o (t b o e) (I.base.keep b o e n hb g),λb o e n hb g=>?_,I.base.free,λb o e g=>?_,I.base.rd,I.base.ma,I.base.qB⟩,⟨_,hn',λj y K w f B=>?_⟩,λx c e=>?_,I.free,I.d7,λp D=>?_,λb u e=>?_,by simpa using I.len⟩;·obtain⟨sl,q⟩:=I.base.slot b o e n hb g;exact⟨sl,h b _ (t b o e) q⟩
 ·obtain⟨o',q⟩:=I.base.there b o e g;exact⟨o',h b _ (t b o e) q⟩
 ·have A:j≠i:=λz=>by rw[z]at f;rw[List.getElem?_set_self']at f;cases q:σ[i]?<;>rw[q]at f<;>simp at f
  rw[List.getElem?_set_ne (Ne.symm A)]at f;obtain⟨u,r,l⟩:=hl j y K w f B;have F:y≠n:=λz=>A (qX C (z▸w) hi);refine⟨u,r,?_⟩;rcases l with⟨k,l⟩|⟨k,c,e,z⟩;·exact .inl ⟨k,by show(if y=n then v else m y)=some u;rw[if_neg F];exact l⟩
  ·exact .inr ⟨k,c,e,cellK y c e _ z⟩
 ·obtain⟨v,z⟩:=I.cell x c e;exact⟨v,cellK x c e v z⟩
 ·obtain⟨e,n,ne,J,d⟩:=I.pin p D;exact⟨h p.1 p.2 ne e,n,ne,J,d⟩
 ·have G:∀c,H c≠none->c≠X.env.locals:=λc n z=>n (by rw[z];exact I.free);refine(I.bV b u e).sL (λc o hc q=>h c o (G c ?_) q) (λ_ q=>q) λ_ _ q=>q;rcases hc with z|z;·rw[z,e];simp
  ·rw[z];simp
theorem ir{M:Model}{A:Around}{E:Value->Shared->Prop}{Q:Unit->Shared->Prop}{i:Nat}{n:Str}{e:Pos}(I:Inv X pins σ H s)(c:X.N.Nodup)(hi:X.N[i]?=some n)(b:X.env.scope.names.lookup n=some .local)(h:∀s',Inv X pins (σ.set i none) H s'->Q () s'):wpAny M A (do bindName X.env n .none;unbindBehindTheSuite X.env n e) Q E s:=by obtain⟨m,hn,hl⟩:=id I.loc;refine wpAny_nameGoes_keeps b hn (by rw[I.ok.kind];rfl) λh' v hn' d=>h _ (Jl I c hi b hn hl hn' d)
end
theorem xj{K:PySem.W.Frag}{prog:Program}{w:World}{A:Around}{E:Value->Shared->Prop}{Q:Bool->Shared->Prop}{s:Shared}{a C c:Addr}{oe:Obj}{b:Bool}(X:K.In s.heap)(he:s.heap.get? a=some oe)(hc:oe.cls= .ref C)(i:yK K c)(e:PySem.W.subIn K (.ref C) (.ref c)=some b)(q:Q b s):wpAny (model prog w) A (excMatches (.ref a) (.ref c)) Q E s:=by
 obtain⟨m,newId,x,FB,k⟩:=i;obtain⟨bm,N,nm,F,bs,r,G,sub,l,n,o,y,k1,k2,z,B,D,h,p,u,T⟩:=qg X k;have j:(Value.ref c::bm).contains (.type "BaseException")=true:=by rw[List.contains_cons,T.hasType FB.hasBase,Bool.or_true]
 have f:=tc_notTuple;have L:=PySem.W.looks_subIn (M:=model prog w) X e;obtain⟨v,g,d,t,os⟩:=s;unfold excMatches;repeat(first|with_reducible refine zQ00 (L.at ?_)|(with_reducible refine wpAny_loadPart_at he ?_;rw[hc])|with_reducible refine wpAny_loadPart_at h ?_|(with_reducible refine wpAny_isSubtype_exc h ?_;rw[j])|wp_step)
 cases b<;>(wp_walk;exact q)
noncomputable abbrev TH:=Addr->Addr->TS
def PH(X:Cx)(b:List ExceptHandler)(t:TH):Prop:=∀(pins:List (Addr×Obj))(s:Shared)(σ:L2.St)(H:Hp)(D:Ends)(a C T:Addr)(c:Value),Inv X pins σ H s->L8 X pins H s a C T c .none->(X.A.handled=none->c= .none)->t C a D σ H->wpAny (model X.prog X.w) X.A (handleBy (.ref a) X.env b) (SP X pins D) X.xe s
noncomputable def Zm:TH:=λ_ _ _ _ _=>False
theorem Nm{X:Cx}:PH X [] Zm:=λ_ _ _ _ _ _ _ _ _ _ _ _ h=>h.elim
def Cm(X:Cx)(cm:Bool):Prop:=cm=true->X.A.handled=none
section
variable{X:Cx}{cm:Bool}
theorem N9{pins:List (Addr×Obj)}{s:Shared}{H:Hp}{a C T:Addr}{c fl:Value}(F:L8 X pins H s a C T c fl)(hc:X.A.handled=none->c= .none)(hm:Cm X cm):∃oe vs,s.heap.get? a=some oe/\oe.cls= .ref C/\oe.data= .fields vs/\(cm=true->∃vs,oe.data= .fields vs/\vs[2]?=some .none):=by obtain⟨oe,vs,a0,d,e,b,g,h,f⟩:=F.ex;exact⟨oe,vs,d,e,b,λz=>⟨vs,b,by rw[f,hc (hm z)]⟩⟩
theorem xt{x:Str}{d:Addr}{G K:Pos}{pins:List (Addr×Obj)}{s:Shared}{σ:L2.St}{H:Hp}{a C T:Addr}{c:Value}{b:Bool}{R:Result->Shared->Prop}(B:yK X.K d)(hm:X.mg x=some (.ref d))(E:Gl X x)(D:(x==("__debug__":Str))=false)(I:Inv X pins σ H s)(F:L8 X pins H s a C T c .none)(e:PySem.W.subIn X.K (.ref C) (.ref d)=some b)(h:∀s1,Inv X pins σ H s1->L8 X pins H s1 a C T c .none->R (.ok (if b then .brk else .next)) s1):codeAny (model X.prog X.w) (X.A.mark (some (.ref a))) (.handlers (.ref a) [.ExceptHandler (some (.Name x G)) none [] K] X.env) R s:=by
 obtain⟨oe,vs,a0,n,k,l,o,t,u⟩:=F.ex;obtain⟨g,L,f1,f2,y⟩:=F.tb;have i:Inv X ((T,g)::pins) σ H s:=I.m7 λp f=>by
  rcases List.mem_cons.mp f with z|z;·rw[z];exact⟨f1,F.fT.un,F.fT.loc,E3 I.jd f1 f2,λv q=>by rw[f2]at q;cases q⟩
  ·exact I.pin p (kA _ z)
 have A:HY X ((T,g)::pins) H a:=⟨F.fa.un,F.fa.new,F.fa.loc,F.fa.cel,λp f=>by
  rcases List.mem_append.mp f with z|z;·exact F.fa.pin p (sD _ z)
  ·rcases List.mem_cons.mp z with z|z;·rw[z];exact F.ne
   ·exact F.fa.pin p (kA _ z)⟩;have m:Inv (xy X a oe false) ((T,g)::pins) σ H s:=LQ i n l A (λz=>nomatch z);refine codeAny_handlers_test (wpAny_mono (bG (X:=xy X a oe false) (a:=d) hm E D _ _ _ _ (λv H'=>v= .ref d/\H'=H) m ⟨rfl,rfl⟩) (λv s1 hv=>?_) λ_ _ z=>z.elim);obtain⟨w,H',J,r,rfl,rfl⟩:=hv;cases(show v=Value.ref d from r);have k1:=(J.pin (a,oe) (by simp)).1;have k2:=(J.pin (T,g) (by simp)).1;have j:Inv X pins σ H' s1:=(kz I.ok J).m7 λp f=>i.ok|>λ_=>(kz I.ok J).pin p (kA _ (dB _ f));exact xj j.lD k1 k B e (h s1 j ⟨⟨oe,vs,a0,k1,k,l,o,t,u⟩,⟨g,L,k2,f2,y⟩,F.ne,F.fa,F.fT⟩)
theorem Gp{pins:List (Addr×Obj)}{s:Shared}{σ:L2.St}{H:Hp}{a C T:Addr}{c fl:Value}{A:Around}{E:Value->Shared->Prop}{Q:Unit->Shared->Prop}(I:Inv X pins σ H s)(F:L8 X pins H s a C T c fl)(hc:X.A.handled=none->c= .none)(hm:Cm X cm)(h:∀s1 oe,Inv (xy X a oe cm) pins σ H s1->oe.cls= .ref C->Q () s1):wpAny (model X.prog X.w) A (setFlight (.ref a) none) Q E s:=by
 refine gN F.ex F.tb F.ne λh' k l d=>?_;have p:HH (iY X.stack) [T] s.heap h':=⟨λb o e _ m=>(d b (by simpa using m)).trans e,λb o e _ m=>⟨o.slots,(d b (by simpa using m)).trans e⟩⟩;have J:=Inv.WT I p λb hb=>by rw[List.mem_singleton.mp hb];exact F.fT
 have F':L8 X pins H {s with heap:=h'} a C T c .none:=⟨k,l,F.ne,F.fa,F.fT⟩;obtain⟨oe,vs,f,g,i,j⟩:=N9 F' hc hm;exact h _ oe (LQ J f i F.fa j) g
noncomputable def D1(i:Nat)(D:Ends):Ends:={nx:=λσ H=>D.nx (σ.set i none) H,rt:=D.rt,bk:=λσ H=>D.bk (σ.set i none) H,ct:=λσ H=>D.ct (σ.set i none) H}
noncomputable def hAs(K:PySem.W.Frag)(i:Nat)(c:Addr)(e d:TH):TH:=λC a D σ H=>∃b,PySem.W.subIn K (.ref C) (.ref c)=some b/\if b=true then e C a (D1 i D) (σ.set i (some (.ref a))) H else d C a D σ H
theorem VF{x y:Str}{i:Nat}{k:Addr}{O P:Pos}{t:Stmt}{w:List Stmt}{rest:List ExceptHandler}{n m:TH}(cm:Bool)(j:X.N.Nodup)(hi:X.N[i]?=some y)(g:X.env.scope.names.lookup y=some .local)(E:yK X.K k)(hm:X.mg x=some (.ref k))(M:Gl X x)(G:Cm X cm)(N:∀(a C:Addr)(oe:Obj),oe.cls= .ref C->kq (xy X a oe cm) (t::w) (n C a))(hr:PH X rest m)(K:(x==("__debug__":Str))=false:=by decide):PH X (.ExceptHandler (some (.Name x O)) (some y) (t::w) P::rest) (hAs X.K i k n m):=by
 intro pins s σ H D a C T c I F hc h;obtain⟨b,e,h⟩:=h;refine wpAny_handleBy_cons (xt E hm M K I F e λs1 J p=>?_) (by intro q;cases q);cases b with
  |false=>
   have h:m C a D σ H:=by simpa using h
   exact hr pins s1 σ H D a C T c J p hc h
  |true=>
   have h:n C a (D1 i D) (σ.set i (some (.ref a))) H:=by simpa using h
   refine codeAny_handlers_suite_as (Gp J p hc G λs2 oe A eo=>?_);refine jt (X:=xy X a oe cm) (v:= .ref a) A j hi (.inl g) rfl (λQ B=>?_) (.inr g);refine wpAny_mono (N a C oe eo pins Q _ H (D1 i D) B h) (λf R q=>?_) λ_ _ z=>z.elim;cases f with|next=>obtain⟨o,H',d,q⟩:=q;exact ir (kz I.ok d) j hi g λl L=>⟨_,H',L,q⟩|brk=>obtain⟨o,H',d,q⟩:=q;exact ir (kz I.ok d) j hi g λl L=>⟨_,H',L,q⟩|cont=>obtain⟨o,H',d,q⟩:=q;exact ir (kz I.ok d) j hi g λl L=>⟨_,H',L,q⟩|ret u=>obtain⟨v,o,H',d,r,q⟩:=q;exact ir (kz I.ok d) j hi g λl L=>⟨v,_,H',L,r,q⟩
end
noncomputable abbrev TB:=Ends->(Addr->L2.St->Hp->Prop)->L2.St->Hp->Prop
def BX(X:Cx)(pins:List (Addr×Obj))(G:Addr->L2.St->Hp->Prop)(e:Value)(s':Shared):Prop:=∃(a C T:Addr)(c:Value)(b:L2.St)(H':Hp),e= .ref a/\Inv X pins b H' s'/\L8 X pins H' s' a C T c .none/\(X.A.handled=none->c= .none)/\G C b H'
def PB(X:Cx)(body:List Stmt)(t:TB):Prop:=∀(pins:List (Addr×Obj))(s:Shared)(σ:L2.St)(H:Hp)(D:Ends)(G:Addr->L2.St->Hp->Prop),Inv X pins σ H s->t D G σ H->wpAny (model X.prog X.w) X.A (execs body X.env) (SP X pins D) (BX X pins G) s
noncomputable def XW(tb:TB)(b:TH):TS:=λD σ H=>tb D (λC c H'=>∀a,H' a=none->b C a D c H') σ H
theorem NP{X:Cx}{body:List Stmt}{h₀:ExceptHandler}{k:List ExceptHandler}{tb:TB}{r:TH}{B:Pos}(x:X.ex=[])(g:X.stack=X.env::X.outer)(w:X.env.frame=some X.env.locals)(hb:PB X body tb)(hh:PH X (h₀::k) r):PS X (.Try body (h₀::k) [] [] B) (XW tb r):=by
 intro pins s σ H D I h;refine wpAny_Try_except (wpAny_mono (hb pins s σ H D _ I h) (λf s1 q=>?_) λe s1 q=>?_);·cases f with|next=>exact(by first|exact wpAny_execs_nil q|(rw[execs];exact zQ02 q)|exact zQ02 q)|brk=>exact q|cont=>exact q|ret u=>exact q
 ·obtain⟨a,C,T,c,i,H',rfl,J,F,hc,q⟩:=q;refine DN (by rw[J.ok.frames,g]) (g▸J.stack) w F.ex F.tb F.ne λh1 d E K n l y=>gN (s:={s1 with heap:=h1}) E K l λh2 G L p=>?_;have t:Inv X pins i H' {s1 with heap:=h1}:=Inv.WT J (g▸y) λb hb=>by
   rcases List.mem_cons.mp hb with z|z;·rw[z];exact F.fa
   ·rw[List.mem_singleton.mp z];exact F.fT
  have j:HY X pins H' d:=jc J n (by rw[x];simp) (jx J.bV n);have A:HH (iY X.stack) [d] h1 h2:=⟨λb o e _ m=>(p b (by simpa using m)).trans e,λb o e _ m=>⟨o.slots,(p b (by simpa using m)).trans e⟩⟩;have v:Inv X pins i H' {s1 with heap:=h2}:=Inv.WT (s:={s1 with heap:=h1}) t A λb hb=>by rw[List.mem_singleton.mp hb];exact j
  exact hh pins _ i H' D a C d c v ⟨G,L,l,F.fa,j⟩ hc (q a F.fa.un)
theorem OR{X:Cx}{x:Str}{k:Nat}{ps:List Str}{sp:Sp}{e:Expr}{es:List Expr}{t:TA}{p g:Pos}{pins:List (Addr×Obj)}{s:Shared}{σ:L2.St}{H:Hp}{Q:VK}{G:Addr->L2.St->Hp->Prop}(F:bB X.prog X.w X.K X.mg (sG X.prog X.w) x k ps sp)(hr:dQ k X.A)(v:Gl X x)(y:X.ex=[])(ha:PA X.L6 (e::es) t)(u:(x==("__debug__":Str))=false)(he:starEach (e::es) X.env=(false,eval e X.env)::starEach es X.env)(w:(backTo g (starEach es X.env)).any (·.1)=false)(hc:X.calm=true)(I:Inv X pins σ H s)(h:t σ H λvs i=>sp vs i Q λj _ n=>∃C,j= .ref C/\G C σ n):wpAny (model X.prog X.w) X.A (eval (.Call (.Name x p) (e::es) [] g) X.env) (EP X pins σ Q) (BX X pins G) s:=by obtain⟨f,fd,F,m,kp,b⟩:=F;refine wpAny_Call_Name_kw (mR I v m ?_ u);refine PySem.W.callWith_K (h₀:=X.base) I.ok.mod.Ic kp (wpAny_mono (ha g pins s σ H _ (I.qp _) h) (λus s1⟨vs,i,d,r,q⟩=>⟨d.eL.lD,?_⟩) λ_ _ z=>z.elim) he w;refine Cd F hr b d.eL hc (λe s' hc=>?_) r q;obtain⟨a,C,T,c,H',rfl,J,l,hn,A,o,q⟩:=N_ d.eL y hc;cases o;exact⟨a,C,T,c,σ,H',rfl,J,l,hn,q⟩
noncomputable def TJ(sp:Sp)(t:TA):TB:=λD G σ H=>t σ H λvs c=>sp vs c (λ_ a=>D.nx σ a) λb _ a=>∃C,b= .ref C/\G C σ a
theorem Jf{X:Cx}{x:Str}{k:Nat}{ps:List Str}{sp:Sp}{e:Expr}{es:List Expr}{t:TA}{p a pos':Pos}(F:bB X.prog X.w X.K X.mg (sG X.prog X.w) x k ps sp)(hr:dQ k X.A)(f:Gl X x)(j:X.ex=[])(ha:PA X.L6 (e::es) t)(i:swapsWith (.Call (.Name x p) (e::es) [] a) none pos'.line X.env=pure false:=by rfl)(d:(x==("__debug__":Str))=false:=by decide)(he:starEach (e::es) X.env=(false,eval e X.env)::starEach es X.env:=by rfl)(g:(backTo a (starEach es X.env)).any (·.1)=false:=by rfl)(hc:X.calm=true:=by rfl):PB X [.Expr (.Call (.Name x p) (e::es) [] a) pos'] (TJ sp t):=by intro pins s σ H D G I h;refine wpAny_execs_cons (wpAny_Expr_any (bL (OR F hr f j ha d he g hc I h) λv s1 l=>?_) I.quiet i);obtain⟨y,b,c,m,q1⟩:=l;exact wpAny_execs_nil ⟨σ,b,c,q1⟩
structure qD(K:PySem.W.Frag)(C:Addr):Prop where
 ga:PySem.W.findIn K (.ref C) "__getattribute__"=some (some (.builtin "BaseException.__getattribute__"))
 cl:PySem.W.findIn K (.ref C) "__class__"=some (some (.builtin "object.__class__"))
 gt:PySem.W.findIn K (.ref C) "__getattr__"=some none
 ob:PySem.W.mroIn K C (.type "object")=some true
 be:PySem.W.mroIn K C (.type "BaseException")=some true
 is:(PySem.W.clsIn K C).isSome=true
section
variable{prog:Program}{w:World}{A:Around}{E:Value->Shared->Prop}{h:Heap}{g:Array GenState}{d:Drawn}{t:Nat}{os:OsState}{a C:Addr}{o:Obj}{K:PySem.W.Frag}
theorem sI{R:Result->Shared->Prop}(X:K.In h)(G:qD K C)(b:h.get? a=some o)(hc:o.cls= .ref C)(hq:R (.ok (.ret (.ref C))) ⟨h,g,d,t,os⟩):codeAny (model prog w) A (.call (.builtin "getset_descriptor.__get__") ⟨[.builtin "object.__class__", .ref a, .ref C],[]⟩) R ⟨h,g,d,t,os⟩:=by
 have c:(⟨h,g,d,t,os⟩:Shared).TypeIs (.builtin "object.__class__") "getset_descriptor":=F.typeOf_object_class;have L:PySem.W.Looks (model prog w) h (isSubtype (.ref C) (.type (".".intercalate ("object.__class__".cutAt '.').dropLast))) true:=by rw[F.owner_object_class];exact PySem.W.looks_mroIn X G.ob
 refine codeAny_call_builtin F.slot_gs_get.plain F.entry_gs_get (F.slot_gs_get.check _ _ _ _ _ _ _ _ c (F.args_gs_get _ _ _) ?_);repeat(any_goals(first|assumption|(with_reducible refine wpAny_loadPart_at b ?_;rw[hc])|with_reducible refine zQ00 (L.at ?_)|with_reducible refine L.at ?_|wp_step))
 refine⟨Code.quiet_builtin _ (by decide+kernel),codeAny_builtin F.entry_object_class ?_⟩;repeat(any_goals(first|assumption|(with_reducible refine wpAny_loadPart_at b ?_;rw[hc])|wp_step))
theorem mi{tk:Tok}{Q:Fin->Shared->Prop}(X:K.In h)(G:qD K C)(b:h.get? a=some o)(hc:o.cls= .ref C)(hq:Q (.done (.ret (.ref C))) ⟨h,g,d,t,os⟩):wpAny (model prog w) A (Builtin.«object.__getattribute__» ⟨[.ref a, .str "__class__" tk],[]⟩) Q E ⟨h,g,d,t,os⟩:=by
 have i:(⟨h,g,d,t,os⟩:Shared).TypeIs (.builtin "object.__class__") "getset_descriptor":=F.typeOf_object_class;have L:=PySem.W.looks_findIn (M:=model prog w) X G.cl;have c:=F.typeOf_object_class;have e:=F.slot_gs_get.lookup;have f:=F.slot_gs_set.lookup;repeat(any_goals(first|assumption|(with_reducible refine wpAny_loadPart_at b ?_;rw[hc])|with_reducible refine zQ00 (L.at ?_)|with_reducible refine L.at ?_|wp_step))
 refine sI X G b hc ?_;repeat(any_goals(first|assumption|wp_step))
theorem uF{M:Model}{b:Value}{Q:Unit->Shared->Prop}(X:K.In h)(G:qD K C)(f:h.get? a=some o)(hc:o.cls= .ref C)(hq:Q () ⟨h,g,d,t,os⟩):wpAny M A (checkBuiltinCall "BaseException.__getattribute__" ⟨[.ref a,b],[]⟩) Q E ⟨h,g,d,t,os⟩:=by
 have c:builtinKind "BaseException.__getattribute__"=some .slot:=by decide+kernel
 have e:splitId "BaseException.__getattribute__"=some ("BaseException","__getattribute__"):=by decide+kernel
 have L:=PySem.W.looks_mroIn (M:=M) X G.be;have ha:=F.args_bexc_ga (.ref a) b;simp only[checkBuiltinCall,c,e];refine zQ00 ?_
 ·unfold isInstance;repeat(first|(with_reducible refine wpAny_loadPart_at f ?_;rw[hc])|with_reducible refine zQ00 (L.at ?_)|with_reducible refine L.at ?_|wp_step)
  exact hq
theorem r0{tk:Tok}{R:Result->Shared->Prop}(X:K.In h)(G:qD K C)(b:h.get? a=some o)(hc:o.cls= .ref C)(hq:R (.ok (.ret (.ref C))) ⟨h,g,d,t,os⟩):codeAny (model prog w) A (.call (.builtin "BaseException.__getattribute__") ⟨[.ref a, .str "__class__" tk],[]⟩) R ⟨h,g,d,t,os⟩:=codeAny_call_builtin F.excAttr_ValueError.ga.plain F.entry_bexc_ga (uF X G b hc (mi X G b hc hq))
theorem vf{tk:Tok}{Q:Value->Shared->Prop}(X:K.In h)(G:qD K C)(c:h.get? a=some o)(hc:o.cls= .ref C)(hq:Q (.ref C) ⟨h,g,d,t,os⟩):wpAny (model prog w) A (getAttrBy (.ref a) (.str "__class__" tk) false) Q E ⟨h,g,d,t,os⟩:=by
 have f:=F.excAttr_ValueError.ga.bind (.ref a);have e:(Value.builtin "BaseException.__getattribute__"==Value.builtin "object.__getattribute__")=false:=by decide+kernel
 have i:(onTheHeap (Value.ref C)&&Value.builtin "BaseException.__getattribute__"==Value.builtin "object.__getattribute__")=false:=by rw[e];rfl
 have b:=PySem.W.looks_findIn (M:=model prog w) X G.ga;have L2:=PySem.W.looks_findIn (M:=model prog w) X G.gt;repeat(any_goals(first|assumption|(with_reducible refine wpAny_loadPart_at c ?_;rw[hc])|with_reducible refine zQ00 (b.at ?_)|with_reducible refine b.at ?_|with_reducible refine zQ00 (L2.at ?_)|with_reducible refine L2.at ?_|wp_step))
 refine r0 X G c hc ?_;repeat(any_goals(first|assumption|wp_step))
theorem qL{Q:Option Value->Shared->Prop}(X:K.In h)(G:qD K C)(b:h.get? a=some o)(hc:o.cls= .ref C)(hq:Q (some (.ref C)) ⟨h,g,d,t+1,os⟩):wpAny (model prog w) A (getAttr? (.ref a) "__class__") Q E ⟨h,g,d,t,os⟩:=by unfold getAttr? getAttrBy?;repeat(any_goals(first|assumption|with_reducible apply vf X G b hc|wp_step))
theorem kR{K:PySem.W.Frag}{a C:Addr}(G:qD K C):PySem.W.KitX K (.ref a) (.ref C) (λh=>∃o,h.get? a=some o/\o.cls= .ref C)where
 ty:=λM h X⟨o,e,c⟩=>by have :=(PySem.W.Looks.ld (M:=M) (part:=none) e);intro A Q E s k q;exact(by first|exact zQ00 (wpAny_loadPart (k _ _ e) (zQ02 (by rw[c];exact q)))|(unfold typeOf loadHead;exact zQ00 (wpAny_loadPart (k _ _ e) (zQ02 (by rw[c];exact q))))|(unfold typeOf;exact zQ00 (wpAny_loadPart (k _ _ e) (zQ02 (by rw[c];exact q)))))
 it:=λM h X _=>by
  have b:=G.is;unfold PySem.W.clsIn at b;split at b;·rename_i f d' i j ho;intro l p m s' k q;unfold isType loadHead;exact zQ00 (wpAny_loadPart (k _ _ (X _ _ ho)) (zQ02 q))
  ·cases b
 ne:=λh tp r u n sl X e=>by
  have b:=G.is;unfold PySem.W.clsIn at b;split at b
  ·rename_i f d' i j ho;by_cases z:C=tp;·have :=X _ _ ho;rw[z,e]at this;cases this
   ·simpa using z
  ·cases b
 ca:=λ{prog w A E Q s}X⟨o,e,c⟩q=>by obtain⟨h,g,d,t,os⟩:=s;exact qL X G e c q
end
theorem FP{X:Cx}{a C:Addr}{oe:Obj}(d:(a,oe)∈X.pn)(hc:oe.cls= .ref C):eV X (.builtin "isinstance") (λxs H Q=>∃y c b,xs=[.ref a,y]/\qD X.K C/\(∀u,RelV y u->u=c)/\PySem.W.kitOne X.K (.ref C) c=some b/\Q (.bl b) H):=by intro pins s σ H xs us Q I r h;obtain⟨y,c,b,rfl,G,inj,e,q⟩:=h;obtain⟨u,v,rfl,f,g⟩:=r.two;cases f;obtain rfl:=inj v g;exact PySem.W.kia_one (kR G) I.lD ⟨oe,(I.pin (a,oe) (sD _ d)).1,hc⟩ e (λz=>nomatch z) λtk=>⟨.bl b,H,I.tok tk,rfl,q⟩
section
variable{X:Cx}{pins:List (Addr×Obj)}{σ:L2.St}{H:Hp}{s:Shared}{a:Addr}{D:List (Str×V)}{k:Str}{tk:Tok}{A:Around}{E:Value->Shared->Prop}
theorem E2{Q:Value->Shared->Prop}(T:iB X.K a D)(I:Inv X pins σ H s)(h:∀b,RelV ((KTD.datumAt k D).getD .bz) b->Q b {s with toks:=s.toks+1}):wpAny (model X.prog X.w) A (call (.builtin "dict.get") [.ref a, .str k tk]) Q E s:=by
 have ty:=T.typeIs I;refine gj PySem.F.slot_dict_get ty PySem.F.entry_dict_get ?_ (PySem.F.args_dict_get_2 _ _);show wpAny (model X.prog X.w) _ (dictGet a (.str k tk)>>=_) _ _ s;refine zQ00 (uf T I (λv u e r=>?_) λhn=>?_);·have h:=h u (by rw[e];exact r);exact zQ02 ⟨u,rfl,h⟩
 ·have h:=h .none (by rw[hn];exact rfl);refine zQ00 ?_;unfold Builtin.Dict.missed;rw[T.sys];simp only[Bool.false_eq_true,if_false];exact zQ02 (zQ02 ⟨_,rfl,h⟩)
end
noncomputable def OH(K:PySem.W.Frag)(d ty:TE):TE:=λσ H Q=>d σ H λx b=>∃a D,x= .ref a/\iB K a D/\ty σ b λy c=>∃k,y= .str k/\Q ((KTD.datumAt k D).getD .bz) c
theorem Gh{X:Cx}{o e:Expr}{apos cP:Pos}{f ty:TE}(ho:PE X o f)(he:PE X e ty)(m:M1 X o "get" apos e cP):PE X (.Call (.Attribute o "get" apos) [e] [] cP) (OH X.K f ty):=by
 intro pins s σ H Q I h;refine wpAny_Call_method m.base m.HW m.line PySem.F.plainAttrs_dict PySem.F.slot_dict_get PySem.F.type_dict_get (bL (ho pins s σ H _ I h) λu s1 v=>?_);obtain⟨x,g,c,l,a,D,ex,T,q1⟩:=v;subst ex;obtain rfl:u=Value.ref a:=l;have p:=T.typeIs c;refine⟨p,λb q=>?_,?_⟩;·cases q;obtain⟨o,_,_,e,x,_⟩:=T.ex;exact⟨o,c.lD a o e,x.2.1⟩
 rw[m.trees];refine Calls.callWith_builtin rfl (Calls.evalArgs_plain (Calls.spliced_cons (bL (he pins s1 σ g _ c q1) λw s2⟨y,i,d,n,k,j,q2⟩=>Calls.spliced_nil ?_)));subst j;obtain⟨t,rfl⟩:=n;exact E2 T d λz r=>⟨_,i,d.tok _,r,q2⟩
theorem sr:bootBuiltins "ValueError"=some (.type "ValueError"):=by decide+kernel
theorem B4{P:Program}{w:World}{X:Cx}:Passes (sG P w) X E0:=λ_ _ _ _ _ _ _ h=>by obtain⟨a,C,T,c,H',_,_,_,_,_,_,_,_,_,_,_,_,_,q⟩:=h;exact q.elim
structure aah(a e it:Addr)(i:Nat)(h:Heap):Prop where
 e:∃old,IsEnum h e it i old
 it:h.IsListIter it a i
theorem lB{CX:wm}{P:Program}{w:World}{K:PySem.W.Frag}{mg:Str->Option Value}{base:Heap}{N:List Str}{qual:Str}{scope:Scope}{f:Addr}{cd:Value}{A:Around}{outer:List Env}{s:Shared}{H:Hp}{E:XK}:(f9 CX P w K mg base N qual scope f cd A outer s H E).L6.K=K:=rfl
end L3
end
section
namespace L3
open PySem L2
theorem JU{a b:TS}{D:Ends}{σ:L2.St}{H:Hp}(h:let c:Ends:=D;let d:TS:=b;aI a d c σ H):(aI a (b)) D σ H:=h
theorem Vt{a b c:TS}{D:Ends}{σ:L2.St}{H:Hp}(h:let d:Ends:=D;let f:TS:=c;let e:TS:=aI b f;aI a e d σ H):(aI a (aI b (c))) D σ H:=h
theorem rJ{a b c t4:TS}{D:Ends}{σ:L2.St}{H:Hp}(h:let d:Ends:=D;let g:TS:=t4;let f:TS:=aI c g;let e:TS:=aI b f;aI a e d σ H):(aI a (aI b (aI c (t4)))) D σ H:=h
theorem RP{a b c t4 d:TS}{D:Ends}{σ:L2.St}{H:Hp}(h:let e:Ends:=D;let j:TS:=d;let i:TS:=aI t4 j;let g:TS:=aI c i;let f:TS:=aI b g;aI a f e σ H):(aI a (aI b (aI c (aI t4 (d))))) D σ H:=h
theorem Ym{a b c t4 d e:TS}{D:Ends}{σ:L2.St}{H:Hp}(h:let f:Ends:=D;let l:TS:=e;let k:TS:=aI d l;let j:TS:=aI t4 k;let i:TS:=aI c j;let g:TS:=aI b i;aI a g f σ H):(aI a (aI b (aI c (aI t4 (aI d (e)))))) D σ H:=h
theorem Vu{a b c t4 d e f g i:TS}{D:Ends}{σ:L2.St}{H:Hp}(h:let j:Ends:=D;let r:TS:=i;let q:TS:=aI g r;let p:TS:=aI f q;let o:TS:=aI e p;let n:TS:=aI d o;let m:TS:=aI t4 n;let l:TS:=aI c m;let k:TS:=aI b l;aI a k j σ H):(aI a (aI b (aI c (aI t4 (aI d (aI e (aI f (aI g (i))))))))) D σ H:=h
theorem SD{a d e t4 f g i j k b c:TS}{D:Ends}{σ:L2.St}{H:Hp}(h:let l:Ends:=D;let n:TS:=c;let m:TS:=aI b n;let v:TS:=aI k m;let u:TS:=aI j v;let t:TS:=aI i u;let s:TS:=aI g t;let r:TS:=aI f s;let q:TS:=aI t4 r;let p:TS:=aI e q;let o:TS:=aI d p;aI a o l σ H):(aI a (aI d (aI e (aI t4 (aI f (aI g (aI i (aI j (aI k (aI b (c))))))))))) D σ H:=h
theorem Sb{a j k t4 l m n o p b c d e f g i:TS}{D:Ends}{σ:L2.St}{H:Hp}(h:let q:Ends:=D;let x:TS:=i;let w:TS:=aI g x;let v:TS:=aI f w;let u:TS:=aI e v;let t:TS:=aI d u;let s:TS:=aI c t;let r:TS:=aI b s;let G:TS:=aI p r;let F:TS:=aI o G;let E:TS:=aI n F;let C:TS:=aI m E;let B:TS:=aI l C;let A:TS:=aI t4 B;let z:TS:=aI k A;let y:TS:=aI j z;aI a y q σ H):(aI a (aI j (aI k (aI t4 (aI l (aI m (aI n (aI o (aI p (aI b (aI c (aI d (aI e (aI f (aI g (i)))))))))))))))) D σ H:=h
end L3
end
section
namespace KM
end KM
end
section
namespace L3
open PySem L2
theorem by0{P:List Value->Prop}(h:P []):∀us:List Value,us.length=0->P us:=λus e=>by rw[List.length_eq_zero_iff.mp e];exact h
theorem Us{P:List Value->Prop}{n:Nat}(h:∀a us,us.length=n->P (a::us)):∀us:List Value,us.length=n+1->P us|[],e=>nomatch e|a::us,e=>h a us (Nat.succ.inj e)
theorem gb{P:List Value->Prop}(h:∀a,P [a]):∀us:List Value,us.length=1->P us:=Us λa=>by0 (h a)
theorem DY{P:List Value->Prop}(h:∀a b,P [a,b]):∀us:List Value,us.length=2->P us:=Us λa=>gb (h a)
theorem ZN{P:List Value->Prop}(h:∀a b c,P [a,b,c]):∀us:List Value,us.length=3->P us:=Us λa=>DY (h a)
theorem by4{P:List Value->Prop}(h:∀a b c d,P [a,b,c,d]):∀us:List Value,us.length=4->P us:=Us λa=>ZN (h a)
theorem by5{P:List Value->Prop}(h:∀a b c d e,P [a,b,c,d,e]):∀us:List Value,us.length=5->P us:=Us λa=>by4 (h a)
def dj(K:PySem.W.Frag)(x:Str)(st:Stmt):Prop:=∃(f:Addr)(od an:Option Addr)(sl:Array (Option Value))(oc kV dc pm cd ct:Value),PySem.W.nsIn K mainGlobals x=some (some (.ref f))/\K.lookup f=some ⟨oc,od, .func (PySem.W.fnOf x x (eD st) (cY st) (aw st) .none kV dc pm an cd ct),sl⟩/\PySem.W.codeIn K cd x=true/\PySem.W.keepIn K (.ref f)=true
theorem dfi{K:PySem.W.Frag}{x:Str}{st:Stmt}{f:Addr}{od an:Option Addr}{sl:Array (Option Value)}{oc kV dc pm cd ct:Value}(a:PySem.W.nsIn K mainGlobals x=some (some (.ref f)))(l:K.lookup f=some ⟨oc,od, .func (PySem.W.fnOf x x (eD st) (cY st) (aw st) .none kV dc pm an cd ct),sl⟩)(c:PySem.W.codeIn K cd x=true)(k:PySem.W.keepIn K (.ref f)=true):dj K x st:=⟨f,od,an,sl,oc,kV,dc,pm,cd,ct,a,l,c,k⟩
theorem dj.df{K:PySem.W.Frag}{h:Heap}{mg:Str->Option Value}{x:Str}{st:Stmt}{ps:List Str}(D:dj K x st)(X:K.In h)(G:h.Ns mainGlobals mg)(b:∀(kV doc pm:Value)(an:Option Addr)(dh ct:Value)(us:List Value),us.length=ps.length->bindArgs (PySem.W.fnOf x x (eD st) (cY st) (aw st) .none kV doc pm an dh ct) ⟨us,[]⟩=pure (ps.zip us)):Df K mg x st ps:=by obtain⟨f,od,an,sl,oc,kV,dc,pm,cd,ct,a,l,c,k⟩:=D;exact⟨f,_,G8 l c k,PySem.W.mg_of X G a,(G8 l c k).binds b⟩
end L3
end
theorem L2.dQ.m{j k:Nat}{A:PySem.Around}(r:L2.dQ k A)(h:j<=k:=by first|decide|lia):L2.dQ j A:=r.mono h
section
namespace K56
open PySem L2 L3 KM
abbrev Mi:List Str:=["_law_thing_here","_law_told","_law_at","_law_scope","_law_kept_here"]
noncomputable def top(i:Nat):Stmt:=PySem.Challenge.pw_keeper_k56_shown_word_by_word.main.body.getD i (.Pass ⟨0,0,0,0⟩)
noncomputable abbrev fY:Stmt:=top 22
noncomputable abbrev iw:Stmt:=top 23
noncomputable abbrev eP:Stmt:=top 24
noncomputable abbrev dz:Stmt:=top 25
noncomputable abbrev cD:Stmt:=top 27
noncomputable abbrev iq:Stmt:=top 28
noncomputable abbrev eZ:Stmt:=top 30
noncomputable abbrev d_:Stmt:=top 31
noncomputable abbrev eC:Stmt:=top 32
noncomputable abbrev dG:Stmt:=top 33
noncomputable abbrev fZ:Stmt:=top 34
noncomputable abbrev pU:Stmt:=top 35
noncomputable abbrev cV:Stmt:=top 37
noncomputable abbrev fE:Stmt:=top 38
noncomputable abbrev gq:Stmt:=top 39
noncomputable abbrev fv:Stmt:=top 40
noncomputable abbrev dU:Stmt:=top 41
noncomputable abbrev cn:Stmt:=top 42
noncomputable abbrev cG:Stmt:=top 43
noncomputable abbrev eW:Stmt:=top 44
noncomputable abbrev fC:Stmt:=top 45
noncomputable abbrev fD:Stmt:=top 46
noncomputable abbrev dD:Stmt:=top 47
noncomputable abbrev fz:Stmt:=top 48
noncomputable abbrev eM:Stmt:=top 49
noncomputable abbrev dF:Stmt:=top 50
noncomputable abbrev zP:Stmt:=top 51
structure uw where
 none_:Unit:=()
 jy:Addr
 dR:Addr
 ie:Addr
 Mn:Addr
 Bq:Addr
 FA:Addr
 Dry:Addr
 bo:Addr
 Eh:Addr
 Fi:Addr
 BM:Addr
 Bz:Addr
 Fh:Addr
 EB:Addr
 Ge:Addr
 ua:Addr
 tW:Addr
structure Mg(mg:Str->Option Value)(t:uw):Prop where
 vI:mg "ValueError"=none
 RF:mg "all"=none
 Fz:mg "int"=none
 bX:mg "isinstance"=none
 dy:mg "len"=none
 qM:mg "list"=none
 KR:mg "max"=none
 UD:mg "min"=none
 fI:mg "range"=none
 Ub:mg "set"=none
 FY:mg "sorted"=none
 Bf:mg "str"=none
 u7:mg "tuple"=none
 K7:mg "zip"=none
 g_MOST_LETTERS:∃tk,mg "MOST_LETTERS"=some (.int 12 tk)
 g_LETTERS:∃tk,mg "LETTERS"=some (.str "abcdefghijklmnopqrstuvwxyz" tk)
 g_KIDS_DUE:mg "KIDS_DUE"=some (.ref t.jy)
 g_BINDER_OVER:mg "BINDER_OVER"=some (.ref t.dR)
 g_KeeperError:mg "KeeperError"=some (.ref t.ie)
 g_Great:mg "Great"=some (.ref t.Mn)
 g_NoPlace:mg "NoPlace"=some (.ref t.Bq)
 g_NoStep:mg "NoStep"=some (.ref t.FA)
 g_Dry:mg "Dry"=some (.ref t.Dry)
 g_NoVariable:mg "NoVariable"=some (.ref t.bo)
 g_NoName:mg "NoName"=some (.ref t.Eh)
 g_NotAll:mg "NotAll"=some (.ref t.Fi)
 g_NotSome:mg "NotSome"=some (.ref t.BM)
 g_NotSame:mg "NotSame"=some (.ref t.Bz)
 g_Unlike:mg "Unlike"=some (.ref t.Fh)
 g_NoText:mg "NoText"=some (.ref t.EB)
 g_NoWord:mg "NoWord"=some (.ref t.Ge)
 g_TwiceTold:mg "TwiceTold"=some (.ref t.ua)
 g_NotClosed:mg "NotClosed"=some (.ref t.tW)
seal L2.PE L2.PS L2.kq L2.PT L2.PW L2.PA L2.PG L2.zc L2.PI L2.PC L2.PO L2.Fg L2.PK L3.Cy
variable{P:Program}{w:World}{K:PySem.W.Frag}{mg:Str->Option Value}{base:Heap}{f:Addr}{fd:FuncData}
noncomputable def da(ns:List Int)(k:Nat):Int:=(ns[k]?).getD 0
def qC(K:PySem.W.Frag):Sp:=λvs H Q _=>∃(a:Addr)(ns:List Int)(k:Nat),vs=[.ref a, .int k]/\aZ K H a (ns.map V.int)/\Q (.int (da ns k)) H
theorem Og:aT ["_law_script","_law_k"] ["_law_script","_law_k"] (aw cV):=⟨rfl,rfl,rfl,by decide+kernel,rfl,by decide+kernel,by decide+kernel⟩
theorem IJ(F:Lu K "_law_cell_at" "_law_cell_at" cV f fd)(g:mg "len"=none):sH P w K mg base bJ 1 f fd ["_law_script","_law_k"] (qC K):=by
 refine F.ok Og (λvs H Q E h=>?_) (λdh A outer s H vs Q E hr h=>?_);·obtain⟨a,ns,k,rfl,_⟩:=h;rfl
 obtain⟨a,ns,k,rfl,hS,q⟩:=h;refine⟨_,af (aU (av Ax (pv 1) (aL aV rfl g PySem.boot_len (aa (pv 0) ag)) (ay _)) (ai (az (aH bH (pv 0) (pv 1) (λ_ _=>rfl)))) aB) (ai (az ah)),?_⟩;refine⟨_,rfl,_,rfl,a,_,rfl, .inl hS,_,_,rfl,rfl,_,rfl,?_⟩;have hl:(ns.map V.int).length=ns.length:=br _;refine bD (λc=>?_) (λc=>?_)
 ·have d:(k:Int)<(((ns.map V.int).length:Nat):Int):=of_decide_eq_true c;have b:k<ns.length:=by rw[hl]at d;omega
  have e:da ns k=ns[k]:=by unfold da;simp[b]
  rw[e]at q;exact⟨_,rfl,_,rfl,a,_,_,_,rfl,rfl,hS,aF (by rw[fi,zQ03 b]<;>rfl),q⟩
 ·have d:¬(k:Int)<(((ns.map V.int).length:Nat):Int):=of_decide_eq_false (Bool.eq_false_iff.mpr c);have b:ns.length<=k:=by rw[hl]at d;omega
  have e:da ns k=0:=by unfold da;rw[List.getElem?_eq_none b];rfl
  rw[e]at q;exact q
variable{P:Program}{w:World}{K:PySem.W.Frag}{mg:Str->Option Value}{base:Heap}{f:Addr}{fd:FuncData}
noncomputable def UU:List (Key×V):=[(.inr "nat", .str ""),(.inr "none", .str ""),(.inr "zero", .str ""),(.inr "all", .str "kk"),(.inr "some", .str "kk"),(.inr "same", .str "ktt"),(.inr "fun", .str "kt"),(.inr "app", .str "tt")]
noncomputable def TZ:List (Key×V):=[(.inr "next", .str "t"),(.inr "rec", .str "kttt"),(.inr "like", .str "kt"),(.inr "carry", .str "ktt"),(.inr "never", .str "kt"),(.inr "pair", .str "ktt"),(.inr "first", .str "t")]
noncomputable def Uw:List (Key×V):=[(.inr "second", .str "t"),(.inr "var", .str "n"),(.inr "name", .str "w")]
noncomputable def dv(x:Str):V:=match dY UU (Sum.inr x:Key)with|some v=>v|none=>match dY TZ (Sum.inr x:Key)with|some v=>v|none=>(dY Uw (Sum.inr x:Key)).getD .bz
noncomputable def kG(w:Str):Bool:=Ja (.str w) [.str "nat", .str "none", .str "all", .str "some", .str "same"]
noncomputable def eQ:D->Bool| .int i=>decide (0<=i)&&decide (i<=99)|_=>false
mutual noncomputable def dZ(nm:D->Bool)(k:Bool):D->Bool
 | .tup (.str w::ps)=>match dv w with| .str s=>(kG w==k)&&mw nm s.cps.toList ps|_=>false
 |_=>false noncomputable def mw(nm:D->Bool):List Nat->List D->Bool|[],[]=>true|c::cs,p::ps=>(if c=107 then dZ nm true p else if c=116 then dZ nm false p else if c=110 then eQ p else nm p)&&mw nm cs ps|_,_=>false end
noncomputable def hW(nm:D->Bool)(c:Nat)(p:D):Bool:=if c=107 then dZ nm true p else if c=116 then dZ nm false p else if c=110 then eQ p else nm p
theorem bF(nm:D->Bool)(c:Nat)(cs:List Nat)(p:D)(ps:List D):mw nm (c::cs) (p::ps)=(hW nm c p&&mw nm cs ps):=by rw[mw];rfl
theorem iS{nm:D->Bool}{k:Bool}{w s:Str}{ps:List D}(h1:dv w= .str s)(h2:kG w=k)(h3:mw nm s.cps.toList ps=true):dZ nm k (.tup (.str w::ps))=true:=by rw[dZ,h1];simp[h2,h3]
theorem de:dv "var"= .str "n":=by decide+kernel
theorem iJ:dv "name"= .str "w":=by decide+kernel
theorem qu:(Str.ofString "n").cps.toList=[110]:=by decide+kernel
theorem LH:(Str.ofString "w").cps.toList=[119]:=by decide+kernel
variable{P:Program}{w:World}{K:PySem.W.Frag}{mg:Str->Option Value}{base:Heap}{f fN fM fS:Addr}{fd fdN fdM fdS:FuncData}
noncomputable def w0(k:Bool):Str:=if k then"nat"else"var"
variable{t:uw}
end K56
end
section
namespace K56
open PySem L2 L3 KM
seal L2.PE L2.PS L2.kq L2.PT L2.PW L2.PA L2.PG L2.zc L2.PI L2.PC L2.PO L2.Fg L2.PK L3.Cy
variable{P:Program}{w:World}{K:PySem.W.Frag}{mg:Str->Option Value}{base:Heap}{t:uw}
noncomputable def bI:List (Str×List V):=[("nat",[]),("none",[]),("all",[.str "kind", .str "kind"]),("some",[.str "kind", .str "kind"]),("same",[.str "kind", .str "term", .str "term"]),("var",[]),("fun",[.str "kind", .str "term"]),("app",[.str "term", .str "term"]),("zero",[]),("next",[.str "term"]),("rec",[.str "kind", .str "term", .str "term", .str "term"]),("like",[.str "kind", .str "term"]),("carry",[.str "kind", .str "term", .str "term"]),("never",[.str "kind", .str "term"]),("pair",[.str "kind", .str "term", .str "term"]),("first",[.str "term"]),("second",[.str "term"]),("name",[])]
noncomputable def R9(c:Nat):V:=if c=107 then .str "kind"else .str "term"
noncomputable def MX(r:Str×List V):Bool:=match dv r.1 with| .str s=>decide (s.cps.size<=4)&&if r.1="var"then decide (s="n")else if r.1="name"then decide (s="w")else s.cps.toList.all (λc=>c==107||c==116)&&decide (r.2=s.cps.toList.map R9)|_=>false
theorem Kt:bI.all MX=true:=by decide+kernel
theorem lookup_mem{a:Type}{x:Str}{v:a}:∀{l:List (Str×a)},l.lookup x=some v->(x,v)∈l
 |[],h=>by simp at h
 |(k,u)::l,h=>by
  rw[iO]at h;cases e:x==k with
   |true=>
    rw[e]at h;obtain rfl:x=k:=by simpa using e
    cases h;exact cT
   |false=>rw[e]at h;exact dB _ (lookup_mem h)
theorem lookup_none{a:Type}{x:Str}:∀{l:List (Str×a)},l.lookup x=none->x∉l.map (·.1)
 |[],_=>by simp
 |(k,u)::l,h=>by
  rw[iO]at h;cases e:x==k with
   |true=>rw[e]at h;cases h
   |false=>
    rw[e]at h;have :=lookup_none h;have e:¬x=k:=by simpa using e
    simp only[cF,zQ34,not_or];exact⟨e,this⟩
inductive Shp(w:Str):Prop where|bz(h1:bI.lookup w=none)(h2:dv w= .bz)|var(h1:bI.lookup w=some [])(h2:w="var")|name(h1:bI.lookup w=some [])(h2:w="name")|Gb(s:Str)(h1:bI.lookup w=some (s.cps.toList.map R9))(h2:dv w= .str s)(h3:w≠"var")(h4:w≠"name")(h5:∀c∈s.cps.toList,c=107\/c=116)(h6:s.cps.size<=4)
theorem JA{tab:List (Key×V)}{w:Str}(h:∀k∈tab.map (·.1),k≠Sum.inr w):dY tab (Sum.inr w:Key)=none:=by cases e:dY tab (Sum.inr w:Key)with|none=>rfl|some v=>exact absurd rfl (h _ (JS e))
noncomputable def KS(k:Key)(l:List Str):Bool:=match k with| .inr x=>decide (x∈l)| .inl _=>true
theorem shp(w:Str):Shp w:=by
 cases h:bI.lookup w with
  |none=>
   refine .bz h ?_;have nm:=lookup_none h;have sub:∀tab:List (Key×V),(tab.map (·.1)).all (λk=>KS k (bI.map (·.1)))=true->dY tab (Sum.inr w:Key)=none:=λtab ht=>JA λk j z=>by subst z;have :=List.all_eq_true.mp ht _ j;simp only[KS,decide_eq_true_eq]at this;exact nm this
   have a:=sub UU (by decide+kernel);have b:=sub TZ (by decide+kernel);have c:=sub Uw (by decide+kernel);unfold dv;rw[a,b,c];rfl
  |some ds=>
   have m:=lookup_mem h;have g:=List.all_eq_true.mp Kt _ m;unfold MX at g;by_cases hv:w="var";·subst hv;exact .var (by decide+kernel) rfl
   ·by_cases hn:w="name";·subst hn;exact .name (by decide+kernel) rfl
    ·cases e:dv w with|str s=>rw[e]at g;simp only[hv,hn,if_false,bE,List.all_eq_true,Bool.or_eq_true,beq_iff_eq,decide_eq_true_eq]at g;obtain⟨d,f,i⟩:=g;exact .Gb s (by rw[h,i]) e hv hn f d|_=>rw[e]at g;simp at g
noncomputable def d8(x:Str):Bool:=decide (x="var")||decide (x="name")
noncomputable def ao(x:Str)(ps:List D):List D:=if d8 x=true then[]else ps
def gp:Sp:=λvs H Q _=>∃(x:Str)(ps:List D)(v:V),vs=[v]/\Rep H (.tup (.str x::ps)) v/\ps.length<=10/\∀(a:Addr)(us:List V)(H':Hp),H a=none->aN H H'->H' a=some (.lst us)->cv H' (ao x ps) us->Q (.ref a) H'
theorem yA:aT ["thing"] ["thing"] (aw iw):=⟨rfl,rfl,rfl,by decide+kernel,rfl,by decide+kernel,by decide+kernel⟩
theorem C3(D:Df K mg "kids_of" iw ["thing"])(M:Mg mg t):bB P w K mg bJ "kids_of" (1) ["thing"] gp:=by
 refine D.ok yA (λvs H Q E h=>?_) (λbase f dh A outer s H vs Q E hr h=>?_);·obtain⟨x,ps,v,rfl,_⟩:=h;rfl
 obtain⟨x,ps,v,rfl,r,hl,q⟩:=h;obtain⟨a,us,rfl,ha,u,us,rfl,⟨rfl,o⟩,i⟩:=r;have n:=i.length;have e:gP (V.str x::us) 0=some (.str x):=aF (j:=0) rfl;have hT:cN K H a (.str x::us):=cN.of ha;refine⟨_,(af (aU (L2.PW.pt (e_ (av bc (aH aM (pv 0) ah (λ_ _=>rfl)) ak (ay _)) (eY (av bc (aH aM (pv 0) ah (λ_ _=>rfl)) ak (ay _))))) (ai (az (bw ag))) aB) (ai (az (cf dk rfl M.qM jQ (aa (eR JY (pv 0) (du ah) ix) ag))))),?_⟩;try dsimp only[lB,m]
 refine JU ?_;intro _ _;have leaf:d8 x=true->0<=sizeLine/\∀p,H p=none->Q (.ref p) (upd H p (.lst [])):=λc=>⟨zQ27 _,λp b=>q p [] _ b (aq b _) aj (by unfold ao;rw[if_pos c];exact rfl)⟩;refine⟨_,rfl,a,_,_,_,rfl,rfl,hT,e,rfl,_,rfl,?_⟩;refine bD (λc=>?_) (λc=>?_);·refine b9 ?_;have c:V.str x=V.str "var":=of_decide_eq_true c;cases c;exact leaf rfl
 refine⟨_,rfl,a,_,_,_,rfl,rfl,hT,e,rfl,_,rfl,?_⟩;refine bD (λd=>?_) (λd=>?_);·have d:V.str x=V.str "name":=of_decide_eq_true d;cases d;exact leaf (by decide+kernel)
 have nl:d8 x=false:=by unfold d8;have h1:x≠"var":=λz=>c (by rw[z];decide+kernel);have h2:x≠"name":=λz=>d (by rw[z];decide+kernel);simp[h1,h2]
 have k:ao x ps=ps:=by unfold ao;rw[nl];rfl
 rw[k]at q;have g:hU (V.str x::us) (some 1) none=us:=by have :=tR (V.str x::us) 1;simpa using this
 refine⟨_,rfl,_,rfl,a,_,rfl,hT,λp b=>?_,λz=>?_⟩;·rw[g];refine⟨p,us,rfl, .inr (cN.of aj),λl hl=>?_⟩;exact q l us _ ((aq b _).free hl) ((aq b _).trans (aq hl _)) aj (i.mono ((aq b _).trans (aq hl _)))
 ·rw[g]at z;exact absurd (congrArg List.length z) (by simp)
theorem jk{nm:D->Bool}:∀{cs:List Nat}{ps:List D},mw nm cs ps=true->cs.length=ps.length|[],[],_=>rfl|[],_::_,h=>by simp[mw]at h|_::_,[],h=>by simp[mw]at h|c::cs,p::ps,h=>by rw[bF,bE]at h;rw[cU,cU,jk h.2]
noncomputable def QF(c:Nat):Bool:=!(Builtin.Str.occurrences (Str.ofString "kt") ⟨#[c]⟩ 0 (Str.ofString "kt").length 1).isEmpty
theorem kt1:QF 107=true:=by decide+kernel
theorem kt2:QF 116=true:=by decide+kernel
theorem kt3:QF 110=false:=by decide+kernel
theorem kt4:QF 119=false:=by decide+kernel
theorem bA{nm:D->Bool}{k:Bool}{x:Str}{ps:List D}(h:dZ nm k (.tup (.str x::ps))=true):∃s,dv x= .str s/\kG x=k/\mw nm s.cps.toList ps=true/\s.cps.size<=4/\s.cps.toList.length=ps.length/\(∀c∈s.cps.toList,QF c=!d8 x)/\(d8 x=false->∀c∈s.cps.toList,c=107\/c=116)/\∃r,bI.lookup x=some r/\r.length=(ao x ps).length:=by
 have a:∀s,dv x= .str s->kG x=k/\mw nm s.cps.toList ps=true:=λs e=>by rw[dZ,e,bE]at h;exact⟨by simpa using h.1,h.2⟩
 cases shp x with
  |bz h1 h2=>rw[dZ,h2]at h;simp at h
  |var h1 h2=>subst h2;obtain⟨k1,k2⟩:=a _ de;refine⟨_,de,k1,k2,by decide,jk k2,λc hc=>?_,λz=>absurd z (by decide+kernel),_,h1,by unfold ao;rw[if_pos (by decide+kernel)];rfl⟩;rw[qu]at hc;rw[List.mem_singleton.mp hc,kt3];decide+kernel
  |name h1 h2=>subst h2;obtain⟨k1,k2⟩:=a _ iJ;refine⟨_,iJ,k1,k2,by decide,jk k2,λc hc=>?_,λz=>absurd z (by decide+kernel),_,h1,by unfold ao;rw[if_pos (by decide+kernel)];rfl⟩;rw[LH]at hc;rw[List.mem_singleton.mp hc,kt4];decide+kernel
  |Gb s h1 h2 h3 h4 h5 h6=>
   obtain⟨k1,k2⟩:=a s h2;have nl:d8 x=false:=by unfold d8;simp[h3,h4]
   refine⟨s,h2,k1,k2,h6,jk k2,λc hc=>?_,λ_=>h5,_,h1,?_⟩
   ·rw[nl];rcases h5 c hc with z|z<;>rw[z];·exact kt1
    ·exact kt2
   ·unfold ao;rw[nl,br,jk k2];rfl
end K56
end
section
namespace K56
open PySem L2 L3 KM PyProof.Rows
seal L2.PE L2.PS L2.kq L2.PT L2.PW L2.PA L2.PG L2.zc L2.PI L2.PC L2.PO L2.Fg L2.PK L3.Cy
variable{P:Program}{w:World}{K:PySem.W.Frag}{mg:Str->Option Value}{base:Heap}{t:uw}
noncomputable def BO:List (Str×V):=[("all", .int 1),("some", .int 1),("fun", .int 1),("rec", .int 0),("carry", .int 0)]
noncomputable def jY(x:Str):V:=(KTD.datumAt x BO).getD .bz
noncomputable def iH(x:Str)(i:Nat):V:=if decide (V.int i=jY x)=true then .int 1 else .int 0
noncomputable def iT(x:Str)(n:Nat):List V:=(List.range n).map (iH x)
def ja:Sp:=λvs H Q _=>∃(x:Str)(ps:List D)(v:V)(k:Bool),vs=[v]/\Rep H (.tup (.str x::ps)) v/\dZ aY k (.tup (.str x::ps))=true/\∀(a:Addr)(H':Hp),aN H H'->H' a=some (.lst (iT x (ao x ps).length))->Q (.ref a) H'
theorem DL(x:Str)(i:Int):Pp (.int i) (jY x)=true:=by
 unfold jY;cases e:KTD.datumAt x BO with
  |none=>rfl
  |some v=>
   have :v= .int 1\/v= .int 0:=by
    simp only[KTD.datumAt,BO]at e;repeat' split at e
    all_goals first|(cases e;exact .inl rfl)|(cases e;exact .inr rfl)|cases e
   rcases this with z|z<;>rw[z]<;>rfl
theorem lM:aT ["thing","over"] ["thing"] (aw eP):=⟨rfl,rfl,rfl,by decide+kernel,rfl,by decide+kernel,by decide+kernel⟩
theorem yE(D:Df K mg "binds_of" eP ["thing"])(M:Mg mg t){as:List Addr}(T:KD K t.jy bI as)(B:iB K t.dR BO):bB P w K mg bJ "binds_of" (1) ["thing"] ja:=by
 refine D.ok lM (λvs H Q E h=>?_) (λbase f dh A outer s H vs Q E hr h=>?_);·obtain⟨x,ps,v,k,rfl,_⟩:=h;rfl
 obtain⟨x,ps,v,k,rfl,r,wf,q⟩:=h;obtain⟨a,us,rfl,ha,X,us,rfl,⟨rfl,W⟩,G⟩:=r;have O:=G.length;have m:gP (V.str x::us) 0=some (.str x):=aF (j:=0) rfl;have hT:cN K H a (.str x::us):=cN.of ha;obtain⟨sh,S,J,U,h4,hlen,L,_,d,F,o⟩:=bA wf;obtain⟨b,y,z⟩:=T.some F;have hn:(ao x ps).length<=4:=by
  unfold ao;split;·exact zQ27 _
  ·rw[<-hlen];simpa using h4
 refine⟨_,(af (aE (i:=1) lM.nd rfl (cI rfl) (Gh (bG M.g_BINDER_OVER rfl) (aH aM (pv 0) ah (λ_ _=>rfl)) ⟨rfl,rfl,rfl,rfl⟩)) (ai (az (gf (N':=["number","over"]) (own:=1) (fr:=[1]) rfl (iV (N:=["thing","over"]) (sc:=aw eP) rfl rfl rfl (by decide+kernel)) (fR rfl M.fI (aa (aL aV rfl M.dy cz (aa (Ny (bG M.g_KIDS_DUE rfl) (aH aM (pv 0) ah (λ_ _=>rfl)) (λ_ _=>rfl)) ag)) ag)) (eI (by decide)) (λ_ _ _=>(bu (i:=0) (show List.Nodup (["number","over"]:List Str)by decide+kernel) rfl (Or.inl rfl))) (λ_ _ _=>ik) (λ_ _ _=>(rX (av bc (pv 0) (pv 1) (ay _)) ah ah)))))),?_⟩;try dsimp only[lB,I]
 refine JU ?_;intro _ _;refine⟨_,_,rfl,B,_,rfl,a,_,_,_,rfl,rfl,hT,m,x,rfl,?_⟩;refine⟨_,rfl,a,_,_,_,rfl,rfl,hT,m,_,_,x,_,rfl,rfl,T.tab,y,b,_,rfl, .inr (z H),_,rfl,(by show-(2^62)<=((d.length:Nat):Int);omega),(by show((d.length:Nat):Int)<2^62;omega),λp C=>eF d.length (iH x) C (by rw[o];exact cB hn (by decide)) (λi g hi s2=>⟨hi,?_⟩) λg s2 h2=>⟨zQ04 _,?_⟩⟩
 ·rintro Y l⟨rfl,rfl⟩R n;have u:(0:Int)+(i:Int)=((i:Nat):Int):=by omega
  rw[u];refine⟨_,rfl,_,rfl,DL x i,_,rfl,?_⟩;refine bD (λc=>?_) (λc=>?_)
  ·have e:iH x i= .int 1:=by unfold iH;exact if_pos c
   have :=n l (aN.refl _);rw[e]at this;exact this
  ·have e:iH x i= .int 0:=by unfold iH;exact if_neg c
   have :=n l (aN.refl _);rw[e]at this;exact this
 ·rw[o]at h2;exact q p g s2 h2
theorem gR(x:Str):∀ws:List Str,Ja (.str x) (ws.map V.str)=decide (x∈ws)
 |[]=>rfl
 |y::ws=>by
  have a:=gR x ws;unfold Ja at a⊢;rw[cF,List.any_cons,a];show(y==x||decide (x∈ws))=decide (x∈y::ws);by_cases e:y=x;·subst e;simp
  ·have b:¬x=y:=λz=>e z.symm;simp[e,b]
theorem dg:∀ws:List Str,(ws.map V.str).all gD=true|[]=>rfl|y::ws=>by rw[cF,List.all_cons,dg ws];rfl
theorem tw:∀{ps:List D}{i:Nat}{p:D},ps[i]?=some p->depth p<=bq ps|[],_,_,e=>by simp at e|p::ps,0,_,e=>by simp at e;subst e;simp only[bq];omega|_::ps,i+1,p,e=>by have :=tw (ps:=ps) (i:=i) (by simpa using e);simp only[bq];omega
end K56
end
section
namespace L3
open PySem PySem.Spec PyProof.Rows L2 KM
theorem GB{prog:Program}{w:World}{A:Around}{E:Value->Shared->Prop}{s:Shared}{t b:Addr}{ws:List Value}{Q:Value->Shared->Prop}(ht:IsTup s.heap t (([]:List Value)).toArray)(hb:IsTup s.heap b ws.toArray)(h1:Q (.ref b) s):wpAny (model prog w) A (binaryOp .Add (.ref t) (.ref b)) Q E s:=by obtain⟨⟨cls,e,data,sl⟩,ho,hc,n,hd⟩:=id ht;obtain⟨⟨i,f,data2,h⟩,d,a,g,c⟩:=id hb;simp only at hc hd a c;subst hc hd a c;exact concat_meets ⟨_,ho,rfl⟩ ⟨_,d,rfl⟩ noFill_tuple_add seq_tuple_add PySem.F.slot_tuple_add PySem.F.entry_tuple_add (PySem.F.args_tuple_add_2 _ _) (tuple_addW0 t b _ ws.toArray n g e f sl h (by simp)) ⟨ho,d,h1⟩
noncomputable def UW(K:PySem.W.Frag):R2:=λx y H Q=>∃a b xs c,x= .ref a/\y= .ref b/\cN K H a xs/\cN K H b c/\xs.length+c.length<=sizeLine/\(xs=[]->Q (.ref b) H)/\(xs≠[]->c=[]->Q (.ref a) H)/\(xs≠[]->c≠[]->∀p,H p=none->Q (.ref p) (upd H p (.tup (xs++c))))
theorem Kg{X:Cx}:il X (binaryOp .Add) (UW X.K):=by
 intro pins s σ H x y v u Q I d f h;obtain⟨a,b,xs,n,rfl,rfl,ha,hb,g,l,q1,q2⟩:=h;by_cases c:xs=[];·cases d;cases f;subst c;obtain⟨i,m,j,_⟩:=I.tuple ha;obtain⟨o,p,k,_⟩:=I.tuple hb;have e:i=[]:=m.mC.mpr rfl;subst e;exact GB j k ⟨.ref b,H,I,rfl,l rfl⟩
 ·exact Jx pins s σ H _ _ v u Q I d f ⟨a,b,xs,n,rfl,rfl,ha,hb,c,g,q1 c,q2 c⟩
noncomputable def U9:R2:=λx y H Q=>∃a b xs c,x= .ref a/\y= .ref b/\H a=some (.tup xs)/\H b=some (.tup c)/\xs.length+c.length<=sizeLine/\∀p H',aN H H'->H' p=some (.tup (xs++c))->Q (.ref p) H'
theorem IH{X:Cx}:il X (binaryOp .Add) U9:=by
 intro pins s σ H x y v u Q I f g h;obtain⟨a,b,xs,i,rfl,rfl,ha,hb,d,q⟩:=h;refine Kg pins s σ H _ _ v u Q I f g ⟨a,b,xs,i,rfl,rfl,cN.of ha,cN.of hb,d,λe=>?_,λ_ e=>?_,λ_ _ p c=>q p _ (aq c _) aj⟩;·subst e;exact q b H (aN.refl H) hb
 ·subst e;exact q a H (aN.refl H) (by rw[gg];exact ha)
theorem sY{X:Cx}{K:PySem.W.Frag}{a C:Addr}{oe:Obj}(e:(a,oe)∈X.pn)(hc:oe.cls= .ref C)(d:X.K=K:=by rfl):eV X (.builtin "isinstance") (λxs H Q=>∃y c b,xs=[.ref a,y]/\qD K C/\(∀u,RelV y u->u=c)/\PySem.W.kitOne K (.ref C) c=some b/\Q (.bl b) H):=by subst d;exact FP e hc
end L3
end
section
namespace L3
open PySem PySem.Spec PyProof.Rows L2
end L3
end
section
namespace L3
open PySem PySem.Spec PyProof.Rows L2 KM
theorem qo:∀(ns:List Nat)(k:Nat),(ns[k]?).getD 0<=ns.sum|[],_=>by simp|n::ns,0=>by simp|n::ns,k+1=>by have :=qo ns k;simp only[List.getElem?_cons_succ,List.sum_cons];lia
end L3
end
section
namespace K56
open PySem L2 L3 KM PyProof.Rows
seal L2.PE L2.PS L2.kq L2.PT L2.PW L2.PA L2.PG L2.zc L2.PI L2.PC L2.PO L2.Fg L2.PK L3.Cy
variable{P:Program}{w:World}{K:PySem.W.Frag}{mg:Str->Option Value}{base:Heap}{t:uw}
mutual noncomputable def plc:D->List (List Nat)| .tup (.str x::ps)=>[]::(if d8 x=true then[]else U_ 0 ps)|_=>[]noncomputable def U_:Nat->List D->List (List Nat)|_,[]=>[]|i,d::ds=>(plc d).map (i::·)++U_ (i+1) ds end
theorem CM{b d:Type}(g:b->d)(z:b)(l:List b):(List.range l.length).map (λj=>g ((l[j]?).getD z))=l.map g:=by induction l with|nil=>rfl|cons a l c=>rw[cU,List.range_succ_eq_map,cF,List.map_map,cF,<-c];rfl
theorem gm{nm:D->Bool}{k:Bool}:∀{d:D},dZ nm k d=true->∃x ps,d= .tup (.str x::ps)| .tup (.str x::ps),_=>⟨x,ps,rfl⟩| .tup [],h=>by simp[dZ]at h| .tup (.bz::_),h=>by simp[dZ]at h| .tup (.bl _::_),h=>by simp[dZ]at h| .tup (.int _::_),h=>by simp[dZ]at h| .tup (.tup _::_),h=>by simp[dZ]at h| .bz,h=>by simp[dZ]at h| .bl _,h=>by simp[dZ]at h| .int _,h=>by simp[dZ]at h| .str _,h=>by simp[dZ]at h
theorem B0{nm:D->Bool}:∀{cs:List Nat}{ps:List D}{i:Nat}{p:D},mw nm cs ps=true->(∀c∈cs,c=107\/c=116)->ps[i]?=some p->∃k,dZ nm k p=true
 |[],[],_,_,_,_,e=>by simp at e
 |[],_::_,_,_,h,_,_=>by simp[mw]at h
 |_::_,[],_,_,h,_,_=>by simp[mw]at h
 |c::cs,q::ps,0,p,h,hc,e=>by
  simp at e;subst e;rw[bF,bE]at h;have h1:=h.1;unfold hW at h1;rcases hc c cT with z|z;·rw[z,if_pos rfl]at h1;exact⟨true,h1⟩
  ·rw[z,if_neg (by decide),if_pos rfl]at h1;exact⟨false,h1⟩
 |c::cs,q::ps,i+1,p,h,hc,e=>by rw[bF,bE]at h;exact B0 (i:=i) h.2 (λc a=>hc c (dB _ a)) (by simpa using e)
theorem c6{k:Bool}{x:Str}{ps:List D}{i:Nat}{p:D}(h:dZ aY k (.tup (.str x::ps))=true)(e:(ao x ps)[i]?=some p):(∃k,dZ aY k p=true)/\depth p<depth (.tup (.str x::ps)):=by
 obtain⟨s,h1,h2,h3,h4,h5,h6,a,_⟩:=bA h;unfold ao at e;split at e;·simp at e
 ·rename_i nl;refine⟨B0 h3 (a (by simpa using nl)) e,?_⟩;have :=tw e;simp only[depth,bq];omega
theorem xi{k:Bool}{x:Str}{ps:List D}(h:dZ aY k (.tup (.str x::ps))=true):(ao x ps).length<=4:=by
 obtain⟨s,h1,h2,h3,h4,h5,h6,a,_⟩:=bA h;unfold ao;split;·exact zQ27 _
 ·rw[<-h5];simpa using h4
structure Rt(d:D)(n:Nat):Prop where
 wf:∃k,dZ aY k d=true
 dp:depth d<n
 ct:(plc d).length<=2000000
 n60:n<=60
theorem Gw{nm:D->Bool}:dZ nm true (.tup [.str "nat"])=true:=by refine iS (w:="nat") (s:="") (by decide+kernel) (by decide+kernel) ?_;rw[show(Str.ofString "").cps.toList=[]by decide+kernel];simp[hW,mw]
theorem KJ{nm:D->Bool}:dZ nm false (.tup [.str "zero"])=true:=by refine iS (w:="zero") (s:="") (by decide+kernel) (by decide+kernel) ?_;rw[show(Str.ofString "").cps.toList=[]by decide+kernel];simp[hW,mw]
theorem Jq{nm:D->Bool}{a:D}(b:dZ nm false a=true):dZ nm false (.tup [.str "next",a])=true:=by refine iS (w:="next") (s:="t") (by decide+kernel) (by decide+kernel) ?_;rw[show(Str.ofString "t").cps.toList=[116]by decide+kernel,bF];simp[hW,mw,b]
structure Th(d:D)(dp kn:Nat):Prop where
 wf:dZ aY false d=true
 dp:depth d<=dp
 kn:aP d<=kn
def Wf(d:D):Prop:=∃k,dZ aY k d=true
theorem hV{d:D}(h:Wf d):∃x ps k,d= .tup (.str x::ps)/\dZ aY k d=true/\ps.length<=10:=by obtain⟨k,h⟩:=h;obtain⟨x,ps,rfl⟩:=gm h;obtain⟨sh,_,_,_,h4,h5,_⟩:=bA h;refine⟨x,ps,k,rfl,h,?_⟩;rw[<-h5];exact cB (by simpa using h4) (by decide)
end K56
end
section
namespace K56
open PySem L2 L3 KM
seal L2.PE L2.PS L2.kq L2.PT L2.PW L2.PA L2.PG L2.zc L2.PI L2.PC L2.PO L2.Fg L2.PK L3.Cy
variable{P:Program}{w:World}{K:PySem.W.Frag}{mg:Str->Option Value}{base:Heap}{t:uw}
end K56
end
section
namespace L3
open PySem PySem.Spec PyProof.Rows L2 KM
end L3
end
section
namespace K56
open PySem L2 L3 KM PyProof.Rows
seal L2.PE L2.PS L2.kq L2.PT L2.PW L2.PA L2.PG L2.zc L2.PI L2.PC L2.PO L2.Fg L2.PK L3.Cy
variable{P:Program}{w:World}{K:PySem.W.Frag}{mg:Str->Option Value}{base:Heap}{t:uw}
theorem De{k:Bool}{x:Str}{ps:List D}(h:dZ aY k (.tup (.str x::ps))=true)(g:d8 x=true):∀(i:Nat)(p:D),ps[i]?=some p->isTup p=false/\(eQ p=true\/aY p=true):=by
 obtain⟨s,h1,h2,h3,h4,h5,h6,l,_⟩:=bA h;have hc:∀(cs:List Nat)(a:List D)(i:Nat),mw aY cs a=true->(∀c∈cs,QF c=!d8 x)->∀p,a[i]?=some p->isTup p=false/\(eQ p=true\/aY p=true):=λcs=>by
  induction cs with
   |nil=>intro a i hq _ p e;cases a with|nil=>simp at e|cons _ _=>simp[mw]at hq
   |cons c cs j=>
    intro a i hq f p e;cases a with
     |nil=>simp[mw]at hq
     |cons q a=>
      rw[bF,bE]at hq;cases i with
       |zero=>
        simp at e;subst e;have d:=f c cT;rw[g]at d;have b:=hq.1;unfold hW at b;rw[if_neg (λz=>by rw[z,kt1]at d;cases d),if_neg (λz=>by rw[z,kt2]at d;cases d)]at b;split at b;·exact⟨by cases q<;>simp[eQ]at b<;>rfl, .inl b⟩
        ·exact⟨by cases q<;>simp[aY]at b<;>rfl, .inr b⟩
       |succ i=>exact j a i hq.2 (λc hc=>f c (dB _ hc)) p (by simpa using e)
 exactλi p e=>hc _ ps i h3 h6 p e
theorem tK:∀(ps:List D),(∀(i:Nat)(p:D),ps[i]?=some p->isTup p=false)->bh ps=0/\bq ps=0
 |[],_=>⟨rfl,rfl⟩
 |p::ps,h=>by
  obtain⟨h1,h2⟩:=tK ps λi q e=>h (i+1) q (by simpa using e);have a:=h 0 p rfl;have b:aP p=0:=by cases p<;>first|rfl|simp[isTup]at a
  have c:depth p=0:=by cases p<;>first|rfl|simp[isTup]at a
  simp[bh,bq,h1,h2,b,c]
theorem qQ:∀ps:List D,bh ps=(ps.map aP).sum|[]=>rfl|p::ps=>by simp[bh,qQ ps]
theorem rM:∀ps:List D,bq ps=md (ps.map depth)|[]=>rfl|p::ps=>by rw[bq,rM ps];rfl
theorem b0{k:Bool}{x:Str}{ps:List D}(h:dZ aY k (.tup (.str x::ps))=true):aP (.tup (.str x::ps))=1+((ao x ps).map aP).sum/\depth (.tup (.str x::ps))=1+md ((ao x ps).map depth):=by
 rw[<-qQ,<-rM];have b:aP (.tup (.str x::ps))=1+bh ps:=by simp[aP,bh]
 have c:depth (.tup (.str x::ps))=1+bq ps:=by simp[depth,bq]
 rw[b,c];unfold ao;by_cases a:d8 x=true;·obtain⟨d,f⟩:=tK ps λi p e=>(De h a i p e).1;rw[if_pos a,d,f];exact⟨rfl,rfl⟩
 ·rw[if_neg a];exact⟨rfl,rfl⟩
structure Rz(d:D)(n:Nat):Prop where
 wf:Wf d
 dp:depth d<n
 kn:aP d<=8000000
theorem Rz.kid{n:Nat}{x:Str}{ps:List D}{i:Nat}{p:D}(h:Rz (.tup (.str x::ps)) (n+1))(e:(ao x ps)[i]?=some p):Rz p n:=by obtain⟨k,wf⟩:=h.wf;obtain⟨b,c⟩:=c6 wf e;have hd:=h.dp;have a:=h.kn;refine⟨b,by omega,?_⟩;rw[(b0 wf).1]at a;have :=qo ((ao x ps).map aP) i;rw[fi,e]at this;have :aP p<=((ao x ps).map aP).sum:=this;omega
def z3(n:Nat):Sp:=λvs H Q _=>∃(d:D)(v:V),vs=[v]/\Rep H d v/\Rz d n/\∀H',aN H H'->Q (.int (depth d:Nat)) H'
theorem Jv{a:Hp}{p:Addr}{ks:List D}(h:a p=some (.lst ((List.range ks.length).map λi=>V.int (depth ((ks[i]?).getD .bz):Nat)))):aZ K a p ((ks.map λd=>((depth d:Nat):Int)).map V.int):=by refine aZ.of ?_;rw[h];rw[List.map_map,CM (λd=>V.int (depth d:Nat)) .bz ks];rfl
noncomputable def Xb:Str:="abcdefghijklmnopqrstuvwxyz"
noncomputable def gQ(c:Nat):Bool:=!(Builtin.Str.occurrences Xb ⟨#[c]⟩ 0 Xb.length 1).isEmpty
noncomputable def xT:D->Bool| .str x=>decide ((1:Int)<=x.length)&&(decide ((x.length:Int)<=12)&&((bI.lookup x).isNone&&x.cps.toList.all gQ))|_=>false
def xc:Sp:=λvs H Q _=>∃d v,vs=[v]/\Rep H d v/\∀H',aN H H'->Q (.bl (xT d)) H'
theorem yB(x:Str):((List.range x.cps.size).map λi=>V.bl (gQ ((x.cps[i]?).getD 0)))=(x.cps.toList.map gQ).map V.bl:=by
 apply List.ext_getElem?;intro i;by_cases h:i<x.cps.size;·simp[h]
 ·simp[h]
theorem zp:aT ["value"] ["value"] (aw fY):=⟨rfl,rfl,rfl,by decide+kernel,rfl,by decide+kernel,by decide+kernel⟩
theorem DC(D:Df K mg "is_name" fY ["value"])(M:Mg mg t){as:List Addr}(T:KD K t.jy bI as):bB P w K mg bJ "is_name" (1) ["value"] xc:=by
 refine D.ok zp (λvs H Q E h=>?_) (λbase f dh A outer s H vs Q E hr h=>?_);·obtain⟨d,v,rfl,_⟩:=h;rfl
 obtain⟨d,v,rfl,r,q⟩:=h;refine⟨_,(af (aU (L2.PW.pt (e_ (yS (iK (aL fw rfl M.bX bK (aa (pv 0) (aa (xl M.Bf uy rfl) ag))))) (eY (yS (Fm MT MT ah (aL eE rfl M.dy cz (aa (pv 0) ag)) (Jb M.g_MOST_LETTERS rfl)))))) (ai (az jN)) aB) (ai (az (zz (gd uB (pv 0) (bG M.g_KIDS_DUE rfl) rfl) (yT (aL (uc rfl) rfl M.RF N5 (aa (gf (N':=["sign"]) (own:=1) (fr:=[]) rfl (iV (N:=["value"]) (sc:=aw fY) rfl rfl rfl (by decide+kernel)) (kx (pv 0)) (eI (by decide)) (λ_ _ _=>(bu (i:=0) (show List.Nodup (["sign"]:List Str)by decide+kernel) rfl (Or.inl rfl))) (λ_ _ _=>ik) (λ_ _ _=>(gd kB (pv 0) (u_ M.g_LETTERS rfl) rfl))) ag))))))),?_⟩;try dsimp only[lB,u]
 refine JU ?_;intro _ _;refine⟨_,rfl,_,_,_,_,rfl,r.ty,IU _ d,_,rfl,?_⟩;refine bD (λc=>b9 ?_) (λc=>?_)
 ·have e:xT d=false:=by cases d<;>first|rfl|(simp[aY]at c)
  rw[e]at q;exact q H (aN.refl H)
 ·obtain⟨x,rfl⟩:∃x,d= .str x:=by cases d<;>first|exact⟨_,rfl⟩|(simp[aY]at c)
  obtain⟨rfl,o⟩:=r;have l:xT (.str x)=(decide ((1:Int)<=x.length)&&(decide ((x.length:Int)<=12)&&((bI.lookup x).isNone&&x.cps.toList.all gQ))):=rfl;rw[l]at q;have hsz:x.length<=sizeLine:=cB o (by decide);refine⟨_,rfl,x,rfl,hsz,_,_,rfl,rfl,_,rfl,?_⟩;refine bD (λg=>?_) (λg=>⟨_,rfl,b9 ?_⟩)
  ·refine⟨_,_,rfl,rfl,_,rfl,?_⟩;refine bD (λa=>?_) (λa=>?_)
   ·have a:decide ((x.length:Int)<=12)=false:=by simpa using a
    rw[a,Bool.false_and,Bool.and_false]at q;exact q H (aN.refl H)
   ·have a:decide ((x.length:Int)<=12)=true:=by simpa using a
    rw[g,a,Bool.true_and,Bool.true_and]at q;refine⟨_,rfl,x,_,_,rfl,rfl,T.tab,_,rfl,?_⟩;rw[T.f_];refine bD (λb=>?_) (λb=>?_)
    ·have b:(bI.lookup x).isNone=true:=by cases e:bI.lookup x<;>simp[e]at b⊢
     rw[b,Bool.true_and]at q;refine⟨_,rfl,x,rfl,λp n=>eF x.cps.size (λi=>V.bl (gQ ((x.cps[i]?).getD 0))) n hsz (λi j hi s2=>⟨hi,?_⟩) λj s2 h2=>⟨zQ04 _,p,x.cps.toList.map gQ,rfl,aZ.of (by rw[<-yB];exact h2),?_⟩⟩;·rintro y k⟨rfl,c,hc,rfl⟩R m;refine⟨_,rfl,_,_,rfl,rfl,?_⟩;have :=m k (aN.refl _);rw[hc]at this;exact this
     ·have e:(x.cps.toList.map gQ).all id=x.cps.toList.all gQ:=by rw[List.all_map];rfl
      rw[e];exact q j s2
    ·have b:(bI.lookup x).isNone=false:=by cases e:bI.lookup x<;>simp[e]at b⊢
     rw[b,Bool.false_and]at q;exact q H (aN.refl H)
  ·have g:decide ((1:Int)<=x.length)=false:=Bool.eq_false_iff.mpr g;rw[g,Bool.false_and]at q;exact q H (aN.refl H)
end K56
end
section
namespace L3
open PySem PySem.Builtin PySem.Builtin.Str PySem.StrLaws
noncomputable def mz(c:Nat):List Nat->List (List Nat)|[]=>[[]]|x::r=>if x=c then[]::mz c r else match mz c r with|[]=>[[x]]|w::ws=>(x::w)::ws
theorem PF(c:Nat)(l:List Nat):∃w ws,mz c l=w::ws:=by
 cases l with
  |nil=>exact⟨_,_,rfl⟩
  |cons x r=>
   rw[mz];split;·exact⟨_,_,rfl⟩
   ·split<;>exact⟨_,_,rfl⟩
theorem xS(x:Str)(i j:Nat):strSub x i j=⟨((x.cps.toList.drop i).take (j-i)).toArray⟩:=by apply PySem.Str.ext';apply Array.ext';rw[strSub_toList]
theorem kl{c:Nat}:∀{l:List Nat},c∉l->mz c l=[l]
 |[],_=>rfl
 |a::l,h=>by
  have h:¬c=a/\c∉l:=by simpa using h
  rw[mz,if_neg λe=>h.1 e.symm,kl h.2]
noncomputable def sg(a:Nat):List Nat:=if a=40 then[32,40,32]else if a=41 then[32,41,32]else if a=10 then[32]else[a]
noncomputable def gu(l:List Nat):List (List Nat):=(mz 32 (l.flatMap sg)).filter λw=>!w.isEmpty
theorem jm:∀{r t:List Nat},32∉r->mz 32 (r++32::t)=r::mz 32 t
 |[],t,_=>by rw[List.nil_append,mz,if_pos rfl]
 |a::r,t,h=>by
  have h:¬32=a/\32∉r:=by simpa using h
  rw[List.cons_append,mz,if_neg λe=>h.1 e.symm,jm h.2]
noncomputable def brk(c:Nat):Bool:=c==32||c==10||c==40||c==41
noncomputable def fX(d:List (List Nat))(r:List Nat):List (List Nat):=if r.isEmpty=true then d else d++[r]
noncomputable def fB(s:List (List Nat)×List Nat)(c:Nat):List (List Nat)×List Nat:=(if c=40\/c=41 then fX s.1 s.2++[[c]]else if brk c=true then fX s.1 s.2 else s.1,if brk c=true then[]else s.2++[c])
theorem Ad(d:List (List Nat))(r:List Nat):fX d r=d++[r].filter λw=>!w.isEmpty:=by unfold fX;cases r<;>simp
theorem jP:∀(l:List Nat)(d:List (List Nat))(r:List Nat),32∉r->fX (l.foldl fB (d,r)).1 (l.foldl fB (d,r)).2=d++((mz 32 (r++l.flatMap sg)).filter λw=>!w.isEmpty)
 |[],d,r,h=>by rw[List.flatMap_nil,gg,kl h];exact Ad d r
 |c::l,d,r,h=>by
  rw[List.foldl_cons,List.flatMap_cons];have a:∀t:List Nat,d++((mz 32 (r++32::t)).filter λw=>!w.isEmpty)=fX d r++((mz 32 t).filter λw=>!w.isEmpty):=λt=>by rw[jm h,Ad,fk,<-List.filter_append];rfl
  by_cases h1:c=40;·subst h1;have e:fB (d,r) 40=(fX d r++[[40]],[]):=rfl;rw[e,jP l _ [] (by simp),show sg 40=[32,40,32]from rfl,List.nil_append];show _=d++((mz 32 (r++32::(40::32::l.flatMap sg))).filter λw=>!w.isEmpty);rw[a,show(40:Nat)::32::l.flatMap sg=[40]++32::l.flatMap sg from rfl,jm (by simp)];simp
  by_cases h2:c=41;·subst h2;have e:fB (d,r) 41=(fX d r++[[41]],[]):=rfl;rw[e,jP l _ [] (by simp),show sg 41=[32,41,32]from rfl,List.nil_append];show _=d++((mz 32 (r++32::(41::32::l.flatMap sg))).filter λw=>!w.isEmpty);rw[a,show(41:Nat)::32::l.flatMap sg=[41]++32::l.flatMap sg from rfl,jm (by simp)];simp
  have g:∀b,brk c=b->fB (d,r) c=(if b=true then fX d r else d,if b=true then[]else r++[c]):=λb hb=>by unfold fB;rw[if_neg (by lia),hb]
  by_cases h3:c=10\/c=32
  ·have f:sg c=[32]:=by unfold sg;rw[if_neg h1,if_neg h2];rcases h3 with h3|h3<;>subst h3<;>rfl
   have hb:brk c=true:=by rcases h3 with h3|h3<;>subst h3<;>rfl
   rw[g true hb,if_pos rfl,if_pos rfl,jP l _ [] (by simp),f,List.nil_append];show _=d++((mz 32 (r++32::l.flatMap sg)).filter λw=>!w.isEmpty);rw[a]
  ·have f:sg c=[c]:=by unfold sg;rw[if_neg h1,if_neg h2,if_neg (by lia)]
   have hb:brk c=false:=by unfold brk;simp;lia
   rw[g false hb,if_neg (by decide),if_neg (by decide),jP l _ (r++[c]) (by simp;exact⟨h,by lia⟩),f];simp
theorem Pl(l:List Nat):fX (l.foldl fB ([],[])).1 (l.foldl fB ([],[])).2=gu l:=by rw[jP l [] [] (by simp)];simp[gu]
end L3
end
section
namespace L3
open PySem PySem.Spec PyProof.Rows L2 KM
noncomputable def yW(z:Str)(lo hi:Option Int):List Nat:=(z.cps.toList.drop (HT.cy z.length 0 lo)).take (HT.cy z.length z.length hi-HT.cy z.length 0 lo)
theorem GU(lo hi:Option Int)(n:Nat):Builtin.Str.strSliceIndices lo hi 1 n=(List.range (HT.cy n n hi-HT.cy n 0 lo)).map (HT.cy n 0 lo+·):=by rw[<-sliceRange_one];unfold Builtin.Str.strSliceIndices;obtain⟨h1,h2,_⟩:=jb lo hi n;rw[<-h1,<-h2];simp only[sliceBounds,Option.getD_none,show(1:Int)>0 by decide,if_true];cases lo<;>cases hi<;>rfl
noncomputable def Tj(e:TE)(tl f g:TO):TE:=λσ H Q=>e σ H λx a=>tl σ a λlo b=>f σ b λhi c=>g σ c λst d=>∃z,x= .str z/\z.length<=sizeLine/\st=none/\∀y:Str,y.cps.toList=yW z lo hi->Q (.str y) d
theorem Jo{X:Cx}{e:Expr}{lo hi st:Option Expr}{j Z:Pos}{A:TE}{tl B C:TO}(he:PE X e A)(hl:PO X lo tl)(U:PO X hi B)(ht:PO X st C)(hb:∀o i,∃ops,subscripted (.Slice lo hi st j) false o i=operate ops (getItem o i):=by intro o i;exact⟨_,rfl⟩):PE X (.Subscript e (.Slice lo hi st j) Z) (Tj A tl B C):=by
 intro pins s σ H Q I h;refine Subscript_ (bL (he pins s σ H _ I h) λv s1 m=>?_);obtain⟨x,D,G,r1,q1⟩:=m;refine wpAny_Slice (bL (hl pins s1 σ D _ G q1) λvl s2⟨l,E,J,Y,q2⟩=>bL (U pins s2 σ E _ J q2) λvu s3⟨u,F,K,pu,q3⟩=>bL (ht pins s3 σ F _ K q3) λvt d m=>?_);obtain⟨t,n,L,pt,z,O,W,S,q⟩:=m;subst O S;obtain⟨tk,rfl⟩:=r1;obtain⟨f,rfl,P⟩:=part_of Y;obtain⟨g,rfl,R⟩:=part_of pu;obtain⟨a,rfl,p⟩:=part_of pt;have M:Inv X pins σ n {d with heap:=d.heap.push {cls:= .type "slice",data:= .fields #[partValue f,partValue g,partValue a]}}:=L.kept (t':=d.toks) λb ob q=>zQ01 _ q;have r:((a.map (·.1)).getD 1==0)=false:=by rw[p];rfl
 show wpAny (model X.prog X.w) X.A (subscriptTail e (.Slice lo hi st j) (.str z tk) (.ref d.heap.objs.size)) (EP X pins σ Q) X.xe _;obtain⟨ops,hb⟩:=hb (.str z tk) (.ref d.heap.objs.size);refine tail_any (ops:=ops) (T:="str") (typeIs_str _ _ _) PySem.F.slot_str_getitem.lookup (wpAny_getItem_str_slice (l:=f) (u:=g) (st:=a) ⟨_,zQ11 _ rfl,rfl,rfl⟩ r ?_) hb;have ep:slicePicked z f g a=(List.range (HT.cy z.length z.length u-HT.cy z.length 0 l)).map (HT.cy z.length 0 l+·):=by unfold slicePicked;rw[P,R,p];exact GU l u z.length
 have fin:∀y:Str,y.cps.toList=yW z l u->∀t' k,EP X pins σ Q (.str y t') {d with heap:=d.heap.push {cls:= .type "slice",data:= .fields #[partValue f,partValue g,partValue a]},toks:=k}:=λy V t' k=>⟨.str y,n,M.tok k,⟨t',rfl⟩,q y V⟩;have w:z.cps.toList.length=z.length:=rfl;unfold sliceMade;split
 ·rename_i c;rw[bE,ep]at c;have N:HT.cy z.length z.length u-HT.cy z.length 0 l=z.length:=by simpa using c.2
  have :=HT.ED z.length z.length (zQ04 _) u;refine fin z ?_ _ _;unfold yW;have a0:HT.cy z.length 0 l=0\/z.length=0:=by lia
  rw[N];rcases a0 with a0|a0;·rw[a0,List.drop_zero,rj (by rw[w];exact zQ04 _)]
  ·have :z.cps.toList=[]:=List.length_eq_zero_iff.mp (by rw[w];exact a0);rw[this];simp
 ·refine⟨?_,fin _ ?_ _ _⟩;·refine cB ?_ W;show(List.filterMap _ (slicePicked z f g a)).toArray.size<=z.length;rw[cw];refine cB (List.length_filterMap_le _ _) ?_;exact sliceIndicesBy_le _ _ _ (by simpa using r) z.length
  ·show(slicePicked z f g a).filterMap (z.cps[·]?)=_;rw[ep,pick_run];rfl
theorem Iw(n:Nat):(Str.ofString (toString ((n:Nat):Int))).cps.toList=(Nat.toDigits 10 n).map Char.toNat:=by show(Str.ofString (toString n)).cps.toList=_;rw[Nat.toString_eq_ofList_toDigits,PySem.Str.ofString_eq_toList];simp
theorem Jy{n k:Nat}(a:0<k)(h:n<10^k):1<=(Str.ofString (toString ((n:Nat):Int))).cps.toList.length/\(Str.ofString (toString ((n:Nat):Int))).cps.toList.length<=k:=by rw[Iw,br];exact⟨Nat.length_toDigits_pos,(Nat.length_toDigits_le_iff (by decide) a).mpr h⟩
end L3
end
section
namespace L3
open PySem PySem.Spec PyProof.Rows L2
end L3
end
section
namespace L3
open PySem PySem.Spec PyProof.Rows L2 KM
section
variable{X:Cx}
noncomputable def Pw:V->List V->Hp->VK->Prop:=λx vs H Q=>∃(z y:Str)(i:Nat)(rest:List Nat),x= .str z/\vs=[.str y]/\Builtin.Str.occurrences z y 0 z.length 1=i::rest/\Q (.int (i:Nat)) H
theorem G5:Rg X "str.index" Pw:=by intro pins s σ H x vs v us Q I c b h;obtain⟨z,y,i,rest,rfl,rfl,ho,q⟩:=h;obtain⟨u,rfl,a⟩:=b.one;obtain⟨t,rfl⟩:=(show∃t,v=Value.str z t from c);obtain⟨d,rfl⟩:=(show∃t,u=Value.str y t from a);exact SC.index ho ⟨.int (i:Nat),H,I.tok _,⟨_,rfl⟩,q⟩
theorem yb:∀{a:List Str}{us:List Value},Vals (a.map V.str) us->StrsAre us a|[],_, .nil=> .nil|y::a,_, .cons r t=>by obtain⟨tk,rfl⟩:=(show∃t,_=Value.str y t from r);exact .cons y tk (yb t)
noncomputable def rJoin(K:PySem.W.Frag):V->List V->Hp->VK->Prop:=λx vs H Q=>∃(z:Str)(l:Addr)(a:List Str),x= .str z/\vs=[.ref l]/\aZ K H l (a.map V.str)/\(a.map (·.length)).sum+a.length*z.length<=16777216/\Q (.str (Txt.join z a)) H
theorem BC:Rg X "str.join" (rJoin X.K):=by intro pins s σ H x vs v us Q I c b h;obtain⟨z,l,e,rfl,rfl,hl,ho,q⟩:=h;obtain⟨u,rfl,a⟩:=b.one;obtain⟨t,rfl⟩:=(show∃t,v=Value.str z t from c);cases a;obtain⟨d,r,p,_⟩:=I.list hl;exact join_list p.isList (by simpa using yb r) ho λt' k=>⟨.str _,H,I.tok _,⟨_,rfl⟩,q⟩
theorem C4(hh:X.A.handled=none):eV X (.builtin "min") (λxs H Q=>∃i j:Int,xs=[.int i, .int j]/\Q (.int (if j<i then j else i)) H):=by
 intro pins s σ H xs us Q I r h;obtain⟨i,j,rfl,q⟩:=h;obtain⟨d,e,rfl,b,c⟩:=Vals.two r;obtain⟨f,rfl⟩:=(show∃t,d=Value.int i t from b);obtain⟨g,rfl⟩:=(show∃t,e=Value.int j t from c);refine min_two_ints hh λh' tk a=>⟨.int (if j<i then j else i),H,I.kept (h':=h') (t':=tk) a,?_,q⟩;split;·exact⟨_,rfl⟩
 ·exact⟨_,rfl⟩
theorem C0(hh:X.A.handled=none):eV X (.builtin "max") (λxs H Q=>∃i j:Int,xs=[.int i, .int j]/\Q (.int (if j>i then j else i)) H):=by
 intro pins s σ H xs us Q I r h;obtain⟨i,j,rfl,q⟩:=h;obtain⟨d,e,rfl,b,c⟩:=Vals.two r;obtain⟨f,rfl⟩:=(show∃t,d=Value.int i t from b);obtain⟨g,rfl⟩:=(show∃t,e=Value.int j t from c);refine max_two_ints hh λh' tk a=>⟨.int (if j>i then j else i),H,I.kept (h':=h') (t':=tk) a,?_,q⟩;split;·exact⟨_,rfl⟩
 ·exact⟨_,rfl⟩
end
section
variable{X:Cx}{pins:List (Addr×Obj)}{σ:L2.St}{H:Hp}{s:Shared}{a:Addr}{D:List (Str×V)}{k:Str}{tk:Tok}{A:Around}{E:Value->Shared->Prop}
end
theorem Pd:bootBuiltins "min"=some (.builtin "min"):=by decide+kernel
mutual noncomputable def QP:D->PyData| .bz=> .none| .bl b=> .bool b| .int i=> .int i| .str x=> .str x| .tup ds=> .tuple (O4 ds)noncomputable def O4:List D->List PyData|[]=>[]|d::ds=>QP d::O4 ds end
mutual theorem xm:∀d:D,(QP d).depth<=depth d| .bz=>zQ27 _| .bl _=>zQ27 _| .int _=>zQ27 _| .str _=>zQ27 _| .tup ds=>by show PyData.depthAll (O4 ds)+1<=1+bq ds;have :=tV ds;lia theorem tV:∀ds:List D,PyData.depthAll (O4 ds)<=bq ds|[]=>zQ27 _|d::ds=>by show max (QP d).depth (PyData.depthAll (O4 ds))<=max (depth d) (bq ds);have h1:=xm d;have h2:=tV ds;lia end
section
variable{X:Cx}{pins:List (Addr×Obj)}{σ:L2.St}{H:Hp}{s:Shared}
end
mutual noncomputable def iU:D->Bool| .bz=>true| .bl _=>false| .int _=>true| .str x=>(PyData.str x).canLay0| .tup ds=>yP ds noncomputable def yP:List D->Bool|[]=>true|d::ds=>iU d&&yP ds end
mutual theorem Av:∀d:D,iU d=true->(QP d).canLay0=true| .bz,_=>rfl| .bl _,h=>by cases h| .int _,_=>rfl| .str x,h=>h| .tup ds,h=>xw ds h theorem xw:∀ds:List D,yP ds=true->PyData.canLayAll0 (O4 ds)=true|[],_=>rfl|d::ds,h=>by have h:(iU d&&yP ds)=true:=h;rw[bE]at h;show((QP d).canLay0&&PyData.canLayAll0 (O4 ds))=true;rw[Av d h.1,xw ds h.2];rfl end
theorem shp{d:D}(h:iU d=true)(hd:depth d<=60):SeqAt.shaped (QP d)=true:=by unfold SeqAt.shaped;rw[Av d h,Bool.true_and];exact decide_eq_true (cB (xm d) (by lia))
def Mk(σ:L2.St)(a:Hp)(b:TE)(d:D):Prop:=∀H,aN a H->∀R:V->Hp->Prop,(∀v H',aN H H'->Rep H' d v->R v H')->b σ H R
def Wv(σ:L2.St)(a:Hp)(b:TA)(ds:List D):Prop:=∀H,aN a H->∀R:List V->Hp->Prop,(∀vs H',aN H H'->cv H' ds vs->R vs H')->b σ H R
theorem zA{σ:L2.St}{a:Hp}{x:Str}(h:x.length<=1000:=by decide+kernel):Mk σ a (tC (.str x)) (.str x):=λH _ R b=>b _ H (aN.refl H) ⟨rfl,h⟩
theorem O2{σ:L2.St}{a:Hp}{i:Int}:Mk σ a (tC (.int i)) (.int i):=λH _ R b=>b _ H (aN.refl H) rfl
theorem u0{σ:L2.St}{a:Hp}:Wv σ a sO []:=λH _ R b=>b [] H (aN.refl H) rfl
theorem fP{σ:L2.St}{a:Hp}{c:TE}{b:TA}{d:D}{ds:List D}(h1:Mk σ a c d)(h2:Wv σ a b ds):Wv σ a (d9 c b) (d::ds):=λH s R g=>h1 H s _ λv e s1 h=>h2 e (s.trans s1) _ λvs f s2 i=>g _ f (s1.trans s2) ⟨v,vs,rfl,h.mono s2,i⟩
theorem zt{σ:L2.St}{a:Hp}{d:TA}{ds:List D}(h:Wv σ a d ds)(hl:ds.length<=sizeLine:=by decide):Mk σ a (EO d) (.tup ds):=λH s R e=>h H s _ λvs f s1 c=>⟨by rw[c.length];exact hl,λp b=>e _ _ (s1.trans (aq b _)) ⟨p,vs,rfl,aj,c.mono (aq b _)⟩⟩
section
variable{P:Program}{w:World}
open SeqAt MeetsSeq3 in open SeqAt MeetsSeq3 in end
section
variable{X:Cx}
end
end L3
end
section
namespace L3
open PySem
theorem kh{M:Model}{a:Ctx}{p:Pos}{t:Sem Fin}{fs:List Frame}{s s':Shared}{e:End}(h:Runs M a p t fs s e s'):s.toks<=s'.toks:=by induction h<;>first|exact zQ04 _|assumption|(apply cB _ (by assumption);exact Nat.le_succ _)|(apply cB<;>assumption)
theorem wp_toks{u:Type}{M:Model}{j:Ctx}(n:Nat)(t:Sem u):∀{Q:u->Pos->Shared->Prop}{E:Value->Pos->Shared->Prop}{p:Pos}{s:Shared},n<=s.toks->Sem.wp M j t Q E p s->Sem.wp M j t (λa i s'=>Q a i s'/\n<=s'.toks) (λe i s'=>E e i s'/\n<=s'.toks) p s:=by
 induction t with
  |pure a=>intro Q E p s hn h;rw[Sem.wp]at h⊢;exact⟨h,hn⟩
  |raise e=>intro Q E p s hn h;rw[Sem.wp]at h⊢;exact⟨h,hn⟩
  |unsupported w=>intro Q E p s hn h;rw[Sem.wp]at h;exact h.elim
  |finish w=>intro Q E p s hn h;rw[Sem.wp]at h;exact h.elim
  |rule z k b=>intro Q E p s hn h;rw[Sem.wp]at h⊢;exact b _ hn h
  |«at» i k b=>intro Q E p s hn h;rw[Sem.wp]at h⊢;exact b _ hn h
  |load a part k b=>intro Q E p s hn h;rw[Sem.wp]at h⊢;obtain⟨o,e,h⟩:=h;exact⟨o,e,b _ hn h⟩
  |update a part f k b=>intro Q E p s hn h;rw[Sem.wp]at h⊢;obtain⟨e,h⟩:=h;exact⟨e,b _ hn h⟩
  |alloc o k b=>intro Q E p s hn h;rw[Sem.wp]at h⊢;exact b _ hn h
  |loadIfAlive a k b=>intro Q E p s hn h;rw[Sem.wp]at h⊢;exact b _ hn h
  |point l k b=>intro Q E p s hn h;rw[Sem.wp]at h⊢;exact b _ hn h
  |register a k b=>intro Q E p s hn h;rw[Sem.wp]at h;exact h.elim
  |fresh k b=>intro Q E p s hn h;rw[Sem.wp]at h⊢;exact b _ (cB hn (Nat.le_succ _)) h
  |ask k b=>intro Q E p s hn h;rw[Sem.wp]at h⊢;exact b _ hn h
  |choose src m k b=>intro Q E p s hn h;rw[Sem.wp]at h⊢;obtain⟨e,h⟩:=h;exact⟨e,b _ hn h⟩
  |os q l k b=>intro Q E p s hn h;rw[Sem.wp]at h⊢;exact b _ hn h
  |call c hd g l k b=>intro Q E p s hn h;rw[Sem.wp]at h⊢;obtain⟨r,s',hr,h⟩:=h;exact⟨r,s',hr,b _ (cB hn (kh hr)) h⟩
  |handled own k b=>intro Q E p s hn h;rw[Sem.wp]at h⊢;exact b _ hn h
  |newGen c k b=>intro Q E p s hn h;rw[Sem.wp]at h⊢;exact b _ hn h
  |genState g k b=>intro Q E p s hn h;rw[Sem.wp]at h⊢;obtain⟨st,e,h⟩:=h;exact⟨st,e,b _ hn h⟩
  |resume g r l k b=>
   intro Q E p s hn h;rw[Sem.wp]at h⊢;obtain⟨y,s',hw,h⟩:=h;refine⟨y,s',hw,b _ ?_ h⟩;unfold Wakes at hw;split at hw;·exact hw.elim
   ·split at hw;·obtain⟨x,s1,hr,_,_,rfl⟩:=hw;have q:=kh hr;exact cB hn q
    ·obtain⟨_,rfl⟩:=hw;exact hn
    ·obtain⟨_,rfl⟩:=hw;exact hn
   ·obtain⟨x,s1,hr,_,_,rfl⟩:=hw;have q:=kh hr;exact cB hn q
   ·obtain⟨_,rfl⟩:=hw;exact hn
   ·obtain⟨_,rfl⟩:=hw;exact hn
  |yield v g l k b=>intro Q E p s hn h;rw[Sem.wp]at h;exact h.elim
  |stack k b=>intro Q E p s hn h;rw[Sem.wp]at h⊢;exact b _ hn h
  |fork c k b=>intro Q E p s hn h;rw[Sem.wp]at h;exact h.elim
  |thread k b=>intro Q E p s hn h;rw[Sem.wp]at h⊢;exact b _ hn h
  |await a f d l k b=>intro Q E p s hn h;rw[Sem.wp]at h;exact h.elim
theorem wpAny_toks{b:Type}{M:Model}{A:Around}{t:Sem b}{Q:b->Shared->Prop}{E:Value->Shared->Prop}{s:Shared}(n:Nat)(hn:n<=s.toks)(h:wpAny M A t Q E s):wpAny M A t (λa s'=>Q a s'/\n<=s'.toks) (λe s'=>E e s'/\n<=s'.toks) s:=λc p hi=>wp_toks n t hn (h c p hi)
theorem Om{c:Type}{M:Model}{A:Around}{t:Sem c}{Q b:c->Shared->Prop}{E:Value->Shared->Prop}{s:Shared}(f:0<s.toks)(h:wpAny M A t Q E s)(d:∀a s',0<s'.toks->Q a s'->b a s'):wpAny M A t b E s:=wpAny_mono (wpAny_toks 1 f h) (λa s' z=>d a s' z.2 z.1) λe s' z=>z.1
end L3
end
section
namespace L3
open PySem PySem.Spec PyProof.Rows L2 KM
section
variable{X:Cx}
noncomputable def PEp(X:Cx)(e:Expr)(t:TE):Prop:=∀(pins:List (Addr×Obj))(s:Shared)(σ:L2.St)(H:Hp)(Q:VK),Inv X pins σ H s->0<s.toks->t σ H Q->wpAny (model X.prog X.w) X.A (eval e X.env) (EP X pins σ Q) X.xe s
noncomputable def PSp(X:Cx)(st:Stmt)(t:TS):Prop:=∀(pins:List (Addr×Obj))(s:Shared)(σ:L2.St)(H:Hp)(D:Ends),Inv X pins σ H s->0<s.toks->t D σ H->wpAny (model X.prog X.w) X.A (exec st X.env) (SP X pins D) X.xe s
noncomputable def Zs(X:Cx)(st:List Stmt)(t:TS):Prop:=∀(pins:List (Addr×Obj))(s:Shared)(σ:L2.St)(H:Hp)(D:Ends),Inv X pins σ H s->0<s.toks->t D σ H->wpAny (model X.prog X.w) X.A (execs st X.env) (SP X pins D) X.xe s
noncomputable def PSg(X:Cx)(st:Stmt)(t:TS):Prop:=∀(pins:List (Addr×Obj))(s:Shared)(σ:L2.St)(H:Hp)(D:Ends),Inv X pins σ H s->t D σ H->wpAny (model X.prog X.w) X.A (exec st X.env) (λf s'=>SP X pins D f s'/\0<s'.toks) X.xe s
variable{e:Expr}{es:List Expr}{te:TE}{st:Stmt}{rest:List Stmt}{t u:TS}{pos:Pos}
end
structure aac(P:Program)(w:World)(K:PySem.W.Frag)(mg:Str->Option Value)(base:Heap)(CX:wm)(k:Nat)(f:Addr)(fd:FuncData)(ps:List Str)(sp:Sp):Prop where
 len:∀vs H Q E,sp vs H Q E->vs.length=ps.length
 run:∀(A:Around)(outer:List Env)(s:Shared)(H:Hp)(args:Args)(us:List Value)(vs:List V)(Q:VK)(E:XK),0<s.toks->dQ k A->E7 P w K mg base A outer s H->BindsTo s fd args (ps.zip us)->Vals vs us->sp vs H Q E->codeAny (model P w) A (.call (.ref f) args) (CR CX A.handled outer P w H s Q E) s
theorem tN{X:Cx}:eV X (.type "str") (λxs H Q=>∃i:Int,xs=[.int i]/\i.natAbs.log2<1920/\Q (.str (Str.ofString (toString i))) H):=by intro pins s σ H xs us Q I r h;obtain⟨i,rfl,hi,q⟩:=h;obtain⟨u,rfl,t,rfl⟩:=vals1 r;exact PySem.P.str_of_int hi ⟨.str _,H,I.tok _,⟨_,rfl⟩,q⟩
section
variable{X:Cx}
noncomputable def VG(y z:Str)(to:TE):TE:=λσ H Q=>to σ H λx b=>∃a:Str,x= .str a/\a.length+(a.length+1)*z.length<=16777216/\Q (.str (Txt.replace a y z)) b
noncomputable def RM(K:PySem.W.Frag):R2:=λx y H Q=>∃(p q:Addr)(ws:List Str),x= .ref p/\y= .ref q/\aZ K H p (ws.map V.str)/\aZ K H q (ws.map V.str)/\Q (.bl true) H
theorem Jt(F:X.A.units+1<cLine):il X (compareOp .Eq) (RM X.K):=by
 intro pins s σ H x y v u Q I w z h;obtain⟨p,q,ws,rfl,rfl,l,m,h⟩:=h;cases w;cases z;obtain⟨a,d,r,_⟩:=I.list l;obtain⟨b,f,t,_⟩:=I.list m;have l1:=d.length;have l2:=f.length;refine SeqAt.eq_listAt r.isList t.isList (e:=λ_=>true) (by simp;lia) (by lia) (λj h1 h2=>?_) ⟨.bl true,H,I,?_,h⟩
 ·have c:j<ws.length:=by simpa[<-l1]using h1
  obtain⟨D,g,k1⟩:=d.get (i:=j) (x:= .str ws[j]) (by simp[c]);obtain⟨E,k,k2⟩:=f.get (i:=j) (x:= .str ws[j]) (by simp[c]);have n:a.toArray[j]=D:=by
   have :a[j]?=some a.toArray[j]:=by simp
   rw[g]at this;exact(Option.some.inj this).symm
  have o:b.toArray[j]=E:=by
   have :b[j]?=some b.toArray[j]:=by simp
   rw[k]at this;exact(Option.some.inj this).symm
  obtain⟨B,k1⟩:=k1;obtain⟨C,k2⟩:=k2;rw[n,o,k1,k2];have :=SeqAt.EqAt.str_str (A:=X.A.in1) (s:=s) ws[j] B ws[j] C;rw[beq_self_eq_true]at this;exact this
 ·show Value.bool _=Value.bool true;congr 1;simp
end
end L3
end
section
namespace L3
open PySem PySem.Spec PyProof.Rows L2
section
variable{prog:Program}{w:World}{A:Around}{E:Value->Shared->Prop}{s:Shared}
end
noncomputable def U6(K:PySem.W.Frag):R2:=λx y H Q=>∃(p q:Addr)(ws:List Str),x= .ref p/\y= .ref q/\aZ K H p (ws.map V.str)/\aZ K H q (ws.map V.str)/\Q (.bl false) H
theorem Iu{X:Cx}(F:X.A.units+1<cLine):il X (compareOp .NotEq) (U6 X.K):=by
 intro pins s σ H x y v u Q I w z h;obtain⟨p,q,ws,rfl,rfl,l,m,h⟩:=h;cases w;cases z;obtain⟨a,d,r,_⟩:=I.list l;obtain⟨b,f,t,_⟩:=I.list m;have l1:=d.length;have l2:=f.length;refine SeqAt.RcNeAt.lists r.isList t.isList (e:=λ_=>true) (by simp;lia) (by lia) (λj h1 h2=>?_) _ _ _ _ ⟨.bl false,H,I,?_,h⟩
 ·have c:j<ws.length:=by simpa[<-l1]using h1
  obtain⟨D,g,k1⟩:=d.get (i:=j) (x:= .str ws[j]) (by simp[c]);obtain⟨E,k,k2⟩:=f.get (i:=j) (x:= .str ws[j]) (by simp[c]);have n:a.toArray[j]=D:=by
   have :a[j]?=some a.toArray[j]:=by simp
   rw[g]at this;exact(Option.some.inj this).symm
  have o:b.toArray[j]=E:=by
   have :b[j]?=some b.toArray[j]:=by simp
   rw[k]at this;exact(Option.some.inj this).symm
  obtain⟨B,k1⟩:=k1;obtain⟨C,k2⟩:=k2;rw[n,o,k1,k2];have :=SeqAt.EqAt.str_str (A:=X.A.in1) (s:=s) ws[j] B ws[j] C;rw[beq_self_eq_true]at this;exact this
 ·show Value.bool _=Value.bool false;congr 1;simp
end L3
end
section
namespace SR
open PySem PySem.Spec PyProof.Rows
noncomputable abbrev kv(x:Keyed):Int:=numOf x.1
section
variable{prog:Program}{w:World}{A:Around}{E:Value->Shared->Prop}{s:Shared}
end
structure SB(rP:Array Keyed)(p:Array (Nat×Nat×Nat))(st:SortSt):Prop where
 perm:(arrOf st).Perm rP
 kind:kindOf st=oneType'
 failed:failedOf st=none
 pend:pendingOf st=p
variable{rP:Array Keyed}{p:Array (Nat×Nat×Nat)}
def Yk(xs:Array Keyed)(lo hi:Nat):Prop:=∀i j,lo<=i->i<=j->j<hi->K xs i<=K xs j
section
variable{prog:Program}{w:World}{A:Around}{E:Value->Shared->Prop}{s:Shared}
end
end SR
end
section
namespace SR
open PySem PySem.Spec PyProof.Rows
structure IL(R:Keyed->Keyed->Prop)(out ca ra cb rb:List Keyed):Prop where
 perm:out.Perm (ca++cb)
 srt:out.Pairwise R
 low:∀x,x∈out->∀y,y∈ra\/y∈rb->R x y
variable{R:Keyed->Keyed->Prop}{out ca ra cb rb:List Keyed}
noncomputable abbrev Le(x y:Keyed):Prop:=kv x<=kv y
variable{a b o:Array Keyed}{ia ib na nb:Nat}
def Mg(a b r:Array Keyed):Prop:=r.toList.Perm (a.toList++b.toList)/\r.toList.Pairwise Le
end SR
end
section
namespace SR
open PySem PySem.Spec PyProof.Rows
structure Sam(st xn:SortSt):Prop where
 kind:kindOf xn=kindOf st
 arr:arrOf xn=arrOf st
 pend:pendingOf xn=pendingOf st
 failed:failedOf xn=failedOf st
variable{a b o:Array Keyed}{ia ib na nb:Nat}
section
variable{prog:Program}{w:World}{A:Around}{E:Value->Shared->Prop}{s:Shared}
end
end SR
end
section
namespace SR
open PySem PySem.Spec PyProof.Rows
variable{a b o:Array Keyed}{ia ib na nb:Nat}
section
variable{prog:Program}{w:World}{A:Around}{E:Value->Shared->Prop}{s:Shared}
end
end SR
end
section
namespace SR
open PySem PySem.Spec PyProof.Rows
section
variable{prog:Program}{w:World}{A:Around}{E:Value->Shared->Prop}{s:Shared}{rP:Array Keyed}
end
section
variable{prog:Program}{w:World}{A:Around}{E:Value->Shared->Prop}{s:Shared}{rP:Array Keyed}
noncomputable def gE(rP:Array Keyed)(st:SortSt):Prop:=(SB rP #[(0,rP.size,0)] st/\Yk (arrOf st) 0 rP.size)\/∃a b pw,SB rP #[(0,a,pw),(a,b,0)] st/\a+b=rP.size/\1<=a/\1<=b/\Yk (arrOf st) 0 a/\Yk (arrOf st) a rP.size
end
def CH(xs:Array Nat):Prop:=xs.toList.Pairwise (·<·)
theorem CH.lt{xs:Array Nat}(h:CH xs){i j:Nat}(a:i<j)(hj:j<xs.size):xs.getD i 0<xs.getD j 0:=by have :=List.pairwise_iff_getElem.mp h i j (by rw[Array.length_toList];omega) (by rw[Array.length_toList];omega) a;rw[Array.getD_eq_getD_getElem?,Array.getD_eq_getD_getElem?,getElem?_pos xs i (by omega),getElem?_pos xs j hj];exact this
theorem getD_in{xs:Array Nat}{i a b:Nat}(h:i<xs.size):xs.getD i a=xs.getD i b:=by rw[Array.getD_eq_getD_getElem?,Array.getD_eq_getD_getElem?,getElem?_pos xs i h];rfl
theorem r8{xs:Array Nat}(hr:CH xs)(j:Nat):∀(fuel lo hi:Nat),lo<=hi->hi<=xs.size->hi-lo<=fuel->(∀i,i<lo->xs.getD i 0<j)->(∀i,hi<=i->i<xs.size->j<=xs.getD i 0)->SetTable.below.go xs j fuel lo hi<=xs.size/\(∀i,i<SetTable.below.go xs j fuel lo hi->xs.getD i 0<j)/\(∀i,SetTable.below.go xs j fuel lo hi<=i->i<xs.size->j<=xs.getD i 0)
 |0,lo,hi,h1,h2,h3,h4,h5=>by
  have :lo=hi:=by omega
  subst this;exact⟨h2,h4,h5⟩
 |fuel+1,lo,hi,h1,h2,h3,h4,h5=>by
  unfold SetTable.below.go;by_cases hl:lo<hi
  ·rw[if_pos hl];dsimp only;have hm:(lo+hi)/2<xs.size:=by omega
   rw[getD_in (b:=0) hm];by_cases hc:xs.getD ((lo+hi)/2) 0<j
   ·rw[if_pos hc];refine r8 hr j fuel _ hi (by omega) h2 (by omega) (λi a=>?_) h5;by_cases e:i=(lo+hi)/2;·subst e;exact hc
    ·exact Nat.lt_trans (hr.lt (j:=(lo+hi)/2) (by omega) hm) hc
   ·rw[if_neg hc];refine r8 hr j fuel lo _ (by omega) (by omega) (by omega) h4 λi a c=>?_;by_cases e:i=(lo+hi)/2;·subst e;omega
    ·exact Nat.le_of_lt (Nat.lt_of_le_of_lt (Nat.not_lt.mp hc) (hr.lt (i:=(lo+hi)/2) (by omega) c))
  ·rw[if_neg hl];have :lo=hi:=by omega
   subst this;exact⟨h2,h4,h5⟩
theorem qr{xs:Array Nat}(hr:CH xs)(j:Nat):SetTable.below xs j<=xs.size/\(∀i,i<SetTable.below xs j->xs.getD i 0<j)/\(∀i,SetTable.below xs j<=i->i<xs.size->j<=xs.getD i 0):=r8 hr j xs.size 0 xs.size (zQ27 _) (zQ04 _) (by omega) (λi hi=>by omega) λi h1 h2=>by omega
theorem y0{xs:Array Nat}(hr:CH xs){j:Nat}(hj:xs[SetTable.below xs j]?≠some j):CH (SetTable.insertAt xs (SetTable.below xs j) j):=by
 obtain⟨f,c,d⟩:=qr hr j;unfold CH;rw[SetTable.toList_insertAt];have lo:∀x,x∈xs.toList.take (SetTable.below xs j)->x<j:=λx b=>by obtain⟨k,a,e⟩:=List.getElem_of_mem b;rw[List.getElem_take]at e;rw[iP,Array.length_toList]at a;have :=c k (by omega);rw[Array.getD_eq_getD_getElem?,getElem?_pos xs k (by omega)]at this;rw[<-e];exact this
 have hi:∀x,x∈xs.toList.drop (SetTable.below xs j)->j<x:=λx b=>by
  obtain⟨k,a,e⟩:=List.getElem_of_mem b;rw[List.getElem_drop]at e;rw[ko,Array.length_toList]at a;have hb:SetTable.below xs j<xs.size:=by omega
  have g:=d (SetTable.below xs j) (zQ04 _) hb;have hne:xs.getD (SetTable.below xs j) 0≠j:=λz=>hj (by rw[Array.getD_eq_getD_getElem?,getElem?_pos xs _ hb]at z;rw[getElem?_pos xs _ hb];exact congrArg some z);have h1:xs.getD (SetTable.below xs j) 0<=xs.getD (SetTable.below xs j+k) 0:=by
   by_cases z:k=0;·subst z;exact zQ04 _
   ·exact Nat.le_of_lt (hr.lt (by omega) (by omega))
  have h2:xs.getD (SetTable.below xs j+k) 0=x:=by rw[Array.getD_eq_getD_getElem?,getElem?_pos xs _ (by omega)];exact e
  omega
 have whole:=hr;unfold CH at whole;rw[<-List.take_append_drop (SetTable.below xs j) xs.toList]at whole;obtain⟨h,i,l⟩:=List.pairwise_append.mp whole;refine List.pairwise_append.mpr ⟨?_,?_,?_⟩<;>simp_all[List.pairwise_append,List.pairwise_cons]
theorem DB(n:Nat):CH (Array.range n):=by unfold CH;rw[Array.toList_range];exact List.pairwise_lt_range
structure Tbl(led:Bool)(t:SetTable):Prop where
 led:t.led=led
 Yg:t.dummies=#[]
 V8:CH t.place
theorem Tbl.zY{led:Bool}{t:SetTable}(h:Tbl led t)(n:Nat):Tbl led (t.standIn n):=⟨h.led,rfl,DB n⟩
theorem Tbl.Kd{led:Bool}{t:SetTable}(h:Tbl led t)(n:Nat):Tbl led (t.orStandIn n):=by
 unfold SetTable.orStandIn;split;·exact h
 ·exact h.zY n
theorem sR{t:SetTable}(h:t.dummies=#[])(j:Nat):t.slot j≠ .dummy:=by
 unfold SetTable.slot SetTable.has;rw[h];dsimp only;split;·exactλz=>nomatch z
 ·rw[if_neg (by simp)];exactλz=>nomatch z
theorem lU{t:SetTable}(hd:t.dummies=#[]){f:Nat->Int}{h:Int}{j:Nat}{d:Option Nat}:∀(fuel:Nat)(p:SetTable.Probe),p.dummy=none->SetTable.probe.go t f h fuel p=some (.empty j d)->d=none/\t.slot j= .empty
 |0,p,_,e=>by unfold SetTable.probe.go at e;cases e
 |fuel+1,p,b,e=>by
  unfold SetTable.probe.go at e;have c:(t.advance p).dummy=none:=by unfold SetTable.advance;split<;>exact b
  cases a:t.slot p.j with
   |empty=>rw[a]at e;cases e;exact⟨b,a⟩
   |dummy=>exact absurd a (sR hd _)
   |live i=>
    rw[a]at e;dsimp only at e;split at e;·cases e
    ·exact lU hd fuel _ c e
theorem Tbl.lay{led:Bool}{t:SetTable}(h:Tbl led t)(es:Array (Int×Value))(a:Int)(x:Value):Tbl led (layNew t es a x).2.1:=by
 unfold layNew;cases e:t.freeSlot a with
  |none=>exact h.zY _
  |some r=>
   obtain⟨slot,g⟩:=r;dsimp only;refine Tbl.Kd ?_ _;have :t.slot slot= .empty:=by unfold SetTable.freeSlot at e;cases b:t.probe (λ_=>a+1) a (t.probeStart a)with|none=>rw[b]at e;cases e|some m=>rw[b]at e;cases m with|candidate=>cases e|empty j d=>obtain⟨c,f⟩:=lU h.Yg _ _ rfl b;subst c;cases e;exact f
   have hne:t.place[SetTable.below t.place slot]?≠some slot:=λz=>by unfold SetTable.slot at this;dsimp only at this;rw[if_pos (by rw[z];exact beq_self_eq_true _)]at this;cases this
   refine⟨h.led,?_,y0 h.V8 hne⟩;show(if SetTable.has t.dummies slot then _ else t.dummies)=_;rw[h.Yg,if_neg (by unfold SetTable.has;simp)]
theorem qE{b:Type}(f:Nat->Option b):∀l:List Nat,((l.filterMap λj=>(f j).map λa=>(j,a)).map (·.1)).Sublist l|[]=>List.Sublist.refl _|j::l=>by rw[List.filterMap_cons];cases e:f j with|none=>exact(qE f l).cons _|some a=>exact(qE f l).cons₂ _
theorem Tbl.Um{led:Bool}{t:SetTable}(h:Tbl led t)(es:Array (Int×Value))(n:Nat):Tbl led (relayAll t es n).2.1:=by
 unfold relayAll SetTable.relaid SetTable.laid;cases SetTable.layClean (SetTable.sizeAbove n-1) (es.map (·.1))with
  |none=>exact h.zY _
  |some a=>
   dsimp only[Option.bind_eq_bind,Option.bind_some,Option.pure_def];split;·exact⟨h.led,rfl,List.Pairwise.sublist (qE (λj=>a.getD j none) _) List.pairwise_lt_range⟩
   ·exact h.zY _
theorem Tbl.fresh(led:Bool):Tbl led (.fresh 0 0 led):=⟨rfl,rfl,List.Pairwise.nil⟩
theorem Tbl.plain{led:Bool}{t:SetTable}(h:Tbl led t):Tbl led {t with plain:=false}:=⟨h.led,h.Yg,h.V8⟩
noncomputable abbrev sobj(es:Array (Int×Value))(ep:Nat)(t:SetTable):Obj:={cls:= .type "set",dict:=none,data:= .set es ep t}
noncomputable abbrev ledW(w:World):Bool:=!w.params.followText "set-order"
noncomputable def keysOf(es:Array (Int×Value)):List Int:=es.toList.map λe=>numOf e.2
noncomputable def SetI(prog:Program)(w:World)(h:Heap)(a:Addr)(ks:List Int):Prop:=∃es ep t,h.get? a=some (sobj es ep t)/\ElemsOf (intKind prog w) es.toList/\(keysOf es).Perm ks/\es.size<scanBound/\t.fits es.size=true/\Tbl (ledW w) t
section
variable{prog:Program}{w:World}{A:Around}{E:Value->Shared->Prop}{s:Shared}{a:Addr}{ks:List Int}
theorem SetI.keep{h h':Heap}(S:SetI prog w h a ks)(k:∀o,h.get? a=some o->h'.get? a=some o):SetI prog w h' a ks:=let⟨es,ep,t,ho,r⟩:=S;⟨es,ep,t,k _ ho,r⟩
theorem Gf(es:Array (Int×Value)):(keysOf es).length=es.size:=by unfold keysOf;rw[br,Array.length_toList]
theorem Km{l:List (Int×Value)}(d:ElemsOf (intKind prog w) l)(k:Int):(∃e∈l,(intKind prog w).is k e.2=true)↔k∈l.map λe=>numOf e.2:=by
 rw[List.mem_map];constructor;·rintro⟨e,he,b⟩;obtain⟨t,ht⟩:=Value.isInt_shape b;exact⟨e,he,by rw[ht];rfl⟩
 ·rintro⟨e,he,b⟩;obtain⟨⟨f,c,_⟩,_⟩:=d e he;obtain⟨t,ht⟩:=Value.isInt_shape c;refine⟨e,he,?_⟩;rw[ht]at b;have :f=k:=b;subst this;exact c
theorem tJ{g:Bool->Sem Unit}(v:∀(b:Bool)(s₁:Shared)(m:Unit->Shared->Prop),m () s₁->wpAny (model prog w) A (g b) m E s₁){es:Array (Int×Value)}{ep:Nat}{t:SetTable}(ho:s.heap.get? a=some (sobj es ep t)){c:Array (Int×Value)}{d:SetTable}(p:ElemsOf (intKind prog w) c.toList)(q:(keysOf c).Perm ks)(j:c.size<scanBound)(u:d.fits c.size=true)(r:Tbl (ledW w) d){y:Bool}{R:Option Bool->Shared->Prop}(h:∀h',Heap.SameBut a s.heap h'->SetI prog w h' a ks->R (some true) {s with heap:=h'}):wpAny (model prog w) A (do storeSet a c d;if(!y&&d.tooFull)=true then do g (relayAll d c (SetTable.grown c.size)).2.2;storeSet a (relayAll d c (SetTable.grown c.size)).1 (relayAll d c (SetTable.grown c.size)).2.1;pure (some true)else pure (some true)) R E s:=by
 have put:∀{h:Heap}{es:Array (Int×Value)}{ep:Nat}{t:SetTable}(f:Array (Int×Value))(t':SetTable),h.get? a=some (sobj es ep t)->(h.update a (Obj.putSet f t')).get? a=some (sobj f (ep+1) t'):=λ{h es ep t}f t' e=>by have :=mv (Obj.putSet f t') e (by rw[putSet_of f t' rfl];rfl);rw[putSet_of f t' rfl]at this;exact this
 refine zQ00 (wpAny_storeSet_of ho rfl ?_ (fits_of_scanBound j));have q1:=put c d ho;have sb:=Heap.SameBut.update s.heap a (Obj.putSet c d);split
 ·have i:=relayAll_perm d c (SetTable.grown c.size);have k:=relayAll_fits d c (SetTable.grown c.size);have l:=r.Um c (SetTable.grown c.size);generalize relayAll d c (SetTable.grown c.size)=Z at i k l⊢;obtain⟨n,x,z⟩:=Z;dsimp only at i k l⊢;have o:n.size<scanBound:=by rw[<-Array.length_toList,i.length_eq,Array.length_toList];exact j
  refine zQ00 (v _ _ _ (zQ00 (wpAny_storeSet_of q1 rfl (zQ02 ?_) (fits_of_scanBound o))));exact h _ (sb.trans (Heap.SameBut.update _ a _)) ⟨_,_,_,put n x q1,p.perm i,(i.map _).trans q,o,k,l⟩
 ·exact zQ02 (h _ sb ⟨_,_,_,q1,p,q,j,u,r⟩)
theorem GL{k:Int}{tk:Tok}{Q:Bool->Shared->Prop}(hS:SetI prog w s.heap a ks)(F:ks.length+1<scanBound)(h:∀h' b,Heap.SameBut a s.heap h'->SetI prog w h' a (if k∈ks then ks else k::ks)->Q b {s with heap:=h'}):wpAny (model prog w) A (setAddHashed a (.int k tk) ((intKind prog w).hash k)) Q E s:=by
 obtain⟨es,ep,t,ho,f,l,hb,n,ht⟩:=hS;have x:(intKind prog w).is k (.int k tk)=true:=intKind_is _ _ _ _;have r:(Value.int k tk).scannable=true:=rfl;have hsz:es.size=ks.length:=by rw[<-Gf,l.length_eq]
 have mem:(∃e∈es.toList,(intKind prog w).is k e.2=true)↔k∈ks:=(Km f k).trans l.mem_iff;unfold setAddHashed setAddHashedIn;refine eN (zQ00 (wpAny_setState_of ho rfl n ?_));dsimp only;rw[byScan_of r hb f];simp only[↓reduceIte];unfold setAddByScan;refine zQ00 (zQ00 (wpAny_rule (zQ00 (wpAny_setScan_of x ho rfl n f ?_))));cases hr:List.findIdx? (λe=>(intKind prog w).is k e.2) es.toList with
  |some j=>obtain⟨hj,C,_⟩:=List.findIdx?_eq_some_iff_getElem.mp hr;have p:k∈ks:=mem.mp ⟨es.toList[j],List.getElem_mem hj,C⟩;rw[if_pos p]at h;exact zQ02 (zQ02 (h s.heap _ (Heap.SameBut.refl a s.heap) ⟨es,ep,t,ho,f,l,hb,n,ht⟩))
  |none=>
   have p:¬k∈ks:=λz=>by obtain⟨e,he,B⟩:=mem.mpr z;have :=List.findIdx?_eq_none_iff.mp hr e he;rw[B]at this;exact Bool.noConfusion this
   rw[if_neg p]at h;have o:∀(b:Bool)(s₁:Shared)(c:Unit->Shared->Prop),c () s₁->wpAny (model prog w) A (match b with|true=>rule "set.scan.the-table-gave-way"|false=>pure ()) c E s₁:=λb s₁ c hq=>by cases b<;>first|exact zQ02 hq|exact wpAny_rule hq
   have d:=layNew_perm t es ((intKind prog w).hash k) (.int k tk);have g:=layNew_fits t es ((intKind prog w).hash k) (.int k tk);have i:=ht.lay es ((intKind prog w).hash k) (.int k tk);dsimp only;generalize layNew t es ((intKind prog w).hash k) (.int k tk)=Z at d g i⊢;obtain⟨m,G,H,D⟩:=Z;dsimp only at d g i⊢;rw[Array.toList_push]at d;have v:ElemsOf (intKind prog w) m.toList:=(f.push x r).perm d;have y:(keysOf m).Perm (k::ks):=by refine(d.map _).trans ?_;rw[cO];exact List.perm_append_comm.trans (List.Perm.cons _ l)
   have u:m.size<scanBound:=by rw[<-Array.length_toList,d.length_eq,cE,Array.length_toList];simp;omega
   refine zQ00 (o _ _ _ ?_);split
   ·refine zQ00 ?_;rw[hashByValue_scannable 8 r];refine zQ02 (tJ (λb s₁ c hq=>o b s₁ c hq) ho v y u ?_ ?_ λh' q hS'=>zQ02 (h h' _ q hS'))
    ·split;·exact g
     ·exact SetTable.fits_plain_off g
    ·split;·exact i
     ·exact i.plain
   ·refine zQ00 (zQ02 ?_);exact tJ (λb s₁ c hq=>o b s₁ c hq) ho v y u g i λh' q hS'=>zQ02 (h h' _ q hS')
theorem w_updLoop{I:Addr}{fp g:List Addr}{G:Array GenState->Array GenState->Prop}{n:Nat}{P:Nat->Value->Prop}{St:Nat->Shared->Prop}{R:Result->Shared->Prop}(W:WalksS prog w A.in1 I fp g G n P St)(S:Addr)(hSf:S∉fp)(ns:List Int)(T:ns.length=n)(hval:∀i v,P i v->∃k t,ns[i]?=some k/\v= .int k t)(hb:∀ks:List Int,ks.Nodup->(∀z,z∈ks->z∈ns)->ks.length+1<scanBound):∀(k i:Nat)(s:Shared)(ks:List Int),n-i=k->i<=n->St i s->SetI prog w s.heap S ks->ks.Nodup->(∀z,z∈ks↔z∈ns.take i)->ks.length<=i->(∀s' ks',Moved (S::g) G s s'->SetI prog w s'.heap S ks'->ks'.Nodup->(∀z,z∈ks'↔z∈ns)->R (.ok (.ret .none)) s')->codeAny (model prog w) A (.builtin "set.update.loop" ⟨[.ref S, .ref I],[]⟩) R s:=by
 have p:S∉g:=λh=>hSf (W.sub _ h);have hsub:∀b∈g,b∈S::g:=λb hb=>dB _ hb;intro k;induction k with
  |zero=>
   intro i s ks J hi l hS d hm K j;have H:i=n:=by omega
   subst H;refine codeAny_builtin PyProof.Rows.F.entry_set_update_loop ?_;rw[Around.under_plainId PyProof.Rows.F.plain_set_update_loop _];refine zQ00 (m:=pyNext (.ref I)) (W.done s _ _ l λs' c=>?_);rw[rj (by omega)]at hm;exact zQ02 (j s' ks (c.mono hsub) (hS.keep λo e=>c.heap S o p e) d hm)
  |succ k O=>
   intro i s ks J hi l hS d hm K j;have hlt:i<n:=by omega
   refine codeAny_builtin PyProof.Rows.F.entry_set_update_loop ?_;rw[Around.under_plainId PyProof.Rows.F.plain_set_update_loop _];refine zQ00 (m:=pyNext (.ref I)) (W.item i s _ _ hlt l λv s' B N c=>?_);obtain⟨z,t,x,rfl⟩:=hval i v B;have hS':=hS.keep λo e=>c.heap S o p e;refine zQ00 (m:=holding [Value.int z t] (setAdd S (.int z t))) (eN ?_);unfold setAdd;refine eN (zQ00 ((intKind prog w).pyHash (k:=z) (intKind_is _ _ _ _) ?_));refine GL (s:={s' with toks:=s'.toks+1}) hS' (hb ks d λz f=>List.mem_of_mem_take ((hm z).mp f)) λh' b r D=>?_;have u:ns.take (i+1)=ns.take i++[z]:=by rw[List.take_succ,x];rfl
   refine zQ02 ⟨plainId_quiet PyProof.Rows.F.plain_set_update_loop _,O (i+1) _ _ (by omega) hlt (W.frame _ s' _ _ N (Nat.le_succ _) λb hb o e=>?_) D ?_ ?_ ?_ λQ ks' L C M F=>?_⟩;·rw[r.2 b (λh:b=S=>hSf (by rw[<-h];exact hb))];exact e
   ·split;·exact d
    ·rename_i f;exact List.nodup_cons.mpr ⟨f,d⟩
   ·intro y;rw[u,List.mem_append,List.mem_singleton,<-hm y];split;·rename_i f;exact⟨.inl,λq=>q.elim id λe=>e▸f⟩
    ·rw[zQ34];exact⟨λq=>q.elim .inr .inl,λq=>q.elim .inr .inl⟩
   ·split;·omega
    ·rw[cU];omega
   ·refine j Q ks' (Moved.trans W.gtrans ((c.mono hsub).then_heap (Nat.le_succ _) λb o hb e=>?_) L) C M F;rw[r.2 b (λh:b=S=>hb (by rw[h];exact cT))];exact e
end
section
variable{prog:Program}{w:World}{A:Around}{E:Value->Shared->Prop}{s:Shared}
theorem c_setNew(a:Value){Q₁:Value->Shared->Prop}(h:Q₁ (.ref s.heap.objs.size) {s with heap:=s.heap.push (sobj #[] 0 (.fresh 0 0 (ledW w)))}):codeAny (model prog w) A (.call (.builtin "set.__new__") ⟨[.type "set",a],[]⟩) (wants Q₁ E) s:=by refine codeAny_of_tree ?_;refine zQ00 (m:=checkBuiltinCall "set.__new__" ⟨[.type "set",a],[]⟩) (wpAny_of_eq (PySem.F.newCall_set_1 a) (zQ02 ⟨plainId_quiet PySem.F.plain_set_new _,codeAny_builtin PySem.F.entry_set_new ?_⟩));rw[Around.under_plainId PySem.F.plain_set_new _];unfold Builtin.«set.__new__» Builtin.Frozenset.newClass;have hsub:=sub_set_self;obtain⟨b,g,d,tk,os⟩:=s;dsimp only;wp_walk;refine wpAny_askSetting (zQ02 ?_);dsimp only;simp only[newObj];exact zQ00 (wpAny_alloc (zQ02 (zQ02 h)))
set_option maxHeartbeats 3200000 in
theorem w_setOf {l : Addr} {items : Array Value} {ns : List Int} {Q : Value → Shared → Prop} (hh : A.handled = none) (hl : s.heap.IsList l items) (hi : IntsAre items.toList ns) (hb : ∀ ks : List Int, ks.Nodup → (∀ z, z ∈ ks → z ∈ ns) → ks.length + 1 < scanBound)
    (h : ∀ (h' : Heap) (tk : Nat) (ks : List Int), SetI prog w h' s.heap.objs.size ks → ks.Nodup → (∀ z, z ∈ ks ↔ z ∈ ns) → (∀ b o, b < s.heap.objs.size → s.heap.get? b = some o → h'.get? b = some o) → Q (.ref s.heap.objs.size) { s with heap := h', toks := tk }) :
    wpAny (model prog w) A (call (.type "set") [.ref l]) Q E s := by
  obtain ⟨c, tl, hmro⟩ := PySem.F.called_set.mro
  have hmade := PySem.F.called_set.made
  have hsub := PySem.F.called_set.sub
  refine wpAny_call (codeAny_of_tree (zQ02 ⟨Code.quiet_builtin _ (by decide +kernel), codeAny_builtin F.entry_type_call ?_⟩))
  rw [Around.under_plain (weight_type_call_type "set" [.ref l] []) rfl]
  have h1 := PySem.F.called_set.notType
  have h2 := PySem.F.called_set.canCreate
  have hct := PySem.F.typeCall_set_1 (.ref l)
  repeat (any_goals (first | assumption | wp_step))
  refine codeAny_mono (c_setNew (.ref l) (E := E) (Q₁ := fun obj s₁ => obj = .ref s.heap.objs.size ∧ s₁ = { s with heap := s.heap.push (sobj #[] 0 (.fresh 0 0 (ledW w))) }) ⟨rfl, rfl⟩) fun r s₁ hr => ?_
  cases r with
  | error e => exact hr
  | ok fl =>
    cases fl with
    | ret obj =>
      obtain ⟨rfl, rfl⟩ := hr
      have hS : (s.heap.push (sobj #[] 0 (.fresh 0 0 (ledW w)))).get? s.heap.objs.size = some (sobj #[] 0 (.fresh 0 0 (ledW w))) := zQ11 _ rfl
      have hT : Shared.TypeIs { s with heap := s.heap.push (sobj #[] 0 (.fresh 0 0 (ledW w))) } (.ref s.heap.objs.size) "set" := ⟨_, hS, rfl⟩
      have hli := PySem.F.called_set.init.lookup
      have hbi := PySem.F.called_set.init.bind (.ref s.heap.objs.size)
      repeat (any_goals (first | assumption | wp_step))
      refine codeAny_mono (codeAny_call_builtin (R := wants (fun r s₂ => r = .none ∧ ∃ h' tk ks, s₂ = { s with heap := h', toks := tk } ∧ SetI prog w h' s.heap.objs.size ks ∧ ks.Nodup ∧ (∀ z, z ∈ ks ↔ z ∈ ns) ∧
          (∀ b o, b < s.heap.objs.size → s.heap.get? b = some o → h'.get? b = some o)) E) PySem.F.called_set.init.plain F.entry_set_init (check_set_init_1 hT ?_)) fun r₂ s₂ hr₂ => ?_
      · obtain ⟨ol, hol, hcl, nl, hdl⟩ := hl
        obtain ⟨ocls, odict, odata, oslots⟩ := ol
        simp only at hcl hdl
        subst hcl; subst hdl
        have hol' : (s.heap.push (sobj #[] 0 (.fresh 0 0 (ledW w)))).get? l = some { cls := .type "list", dict := odict, data := .seq items nl, slots := oslots } := zQ01 _ hol
        have hsls := PySem.F.sub_list_set
        have hslf := PySem.F.sub_list_frozenset
        have hne : (Value.type "list" == Value.type "dict") = false := by decide
        have hl1 : (s.heap.push (sobj #[] 0 (.fresh 0 0 (ledW w)))).IsList l items := ⟨_, hol', rfl, nl, rfl⟩
        unfold Builtin.«set.__init__» noKeywords Builtin.Frozenset.updateFrom
        generalize hPI : pyIter = PI
        wp_walk
        subst hPI
        refine wpAny_pyIter_list hl1 (zQ00 (wpAny_runValue ?_))
        have hlS : l < s.heap.objs.size := zQ07 hol
        have hh3 : A.in1.in1.in1.handled = none := by simp [hh]
        have hneI : l ≠ (s.heap.push (sobj #[] 0 (.fresh 0 0 (ledW w)))).objs.size := by rw [zQ28]; exact zQ23 (Nat.lt_succ_of_lt hlS)
        have hSf : s.heap.objs.size ∉ [(s.heap.push (sobj #[] 0 (.fresh 0 0 (ledW w)))).objs.size, l] := by
          rw [zQ28]; simp only [zQ34, zQ16, or_false, not_or]; exact ⟨zQ23 (Nat.lt_succ_self _), Nat.ne_of_gt hlS⟩
        have hlen : ns.length = items.size := by rw [← IntsAre.length hi, Array.length_toList]
        have hval : ∀ (i : Nat) (v : Value), items[i]? = some v → ∃ k t, ns[i]? = some k ∧ v = .int k t := fun i v hv => by
          obtain ⟨t, e⟩ := IntsAre.int_at hi i v (by rw [Array.getElem?_toList]; exact hv)
          have hlt := (Array.getElem?_eq_some_iff.mp hv).1
          refine ⟨_, t, ?_, e⟩
          rw [List.getD_eq_getElem?_getD, zQ03 (by omega)]; rfl
        refine w_updLoop ((Walks.list hh3 _ l hneI items).toS) s.heap.objs.size hSf ns hlen hval hb (items.size - 0) 0 _ [] (by omega) (zQ27 _)
          ⟨⟨_, zQ11 _ rfl, rfl, rfl⟩, (hl1.push _)⟩ ?_ List.nodup_nil (fun z => by simp) (zQ04 _) ?_
        · refine ⟨#[], 0, _, zQ01 _ hS, fun e he => by simp at he, List.Perm.refl _, by decide, rfl, Tbl.fresh _⟩
        · intro s' ks' hm hS' hn' he'
          obtain ⟨h', g', d', tk', os'⟩ := s'
          have eg : g' = s.gens := hm.gens
          have ed : d' = s.drawn := hm.drawn
          have eo : os' = s.os := hm.os
          subst eg ed eo
          refine zQ02 (zQ02 ⟨rfl, h', tk', ks', rfl, hS', hn', he', fun b o hb e => ?_⟩)
          refine hm.heap b o (fun z => ?_) (zQ01 _ (zQ01 _ e))
          rw [zQ28] at z
          rcases List.mem_cons.mp z with z | z
          · exact zQ23 hb z
          · exact zQ23 (Nat.lt_succ_of_lt hb) (List.mem_singleton.mp z)
      · cases r₂ with
        | error e => exact hr₂
        | ok fl₂ =>
          cases fl₂ with
          | ret r =>
            obtain ⟨rfl, h', tk, ks, rfl, q1, q2, q3, q4⟩ := hr₂
            repeat (any_goals (first | assumption | wp_step))
            exact h _ _ _ q1 q2 q3 q4
          | _ => exact hr₂.elim
    | _ => exact hr.elim
end
theorem Ml:Slot "set" "__iter__" "set.__iter__":=PySem.F.slot_set_iter
theorem VH:entryFor table "set.__iter__"=some Builtin.«frozenset.__iter__»:=entryFor_alias (id':="frozenset.__iter__") (by kernel_rfl) (by decide+kernel) (by decide+kernel) (by kernel_rfl)
theorem tQ:Slot "set_iterator" "__next__" "set_iterator.__next__":= .of (owner:="set_iterator") (n:="__next__") (by rw[typeLookup_type,builtinLookup_eq_fast];kernel_rfl) (by decide+kernel) (by decide+kernel) (by decide+kernel) (by first|exact .inl (by decide+kernel)|exact .inr (by decide+kernel)) (by rw[isSubtype_type];kernel_rfl)
theorem L0:entryFor table "set_iterator.__next__"=some Builtin.«set_iterator.__next__»:=entryFor_of_fast (by kernel_rfl)
theorem ML(a:Value):argsOk "set_iterator.__next__" ⟨[a],[]⟩:=by unfold argsOk;kernel_rfl
theorem L9:Slot "set_iterator" "__iter__" "set_iterator.__iter__":= .of (owner:="set_iterator") (n:="__iter__") (by rw[typeLookup_type,builtinLookup_eq_fast];kernel_rfl) (by decide+kernel) (by decide+kernel) (by decide+kernel) (by first|exact .inl (by decide+kernel)|exact .inr (by decide+kernel)) (by rw[isSubtype_type];kernel_rfl)
theorem S9:entryFor table "set_iterator.__iter__"=some Builtin.«dict_keyiterator.__iter__»:=entryFor_alias (id':="dict_keyiterator.__iter__") (by kernel_rfl) rfl (by decide+kernel) (by kernel_rfl)
theorem Ti(a:Value):argsOk "set_iterator.__iter__" ⟨[a],[]⟩:=by unfold argsOk;kernel_rfl
theorem vC{a:Type}:∀{l:List a}{i:Nat}(h:i<l.length),(l[i]::l.eraseIdx i).Perm l|x::l,0,_=>List.Perm.refl _|x::l,i+1,h=>(List.Perm.swap _ _ _).trans (List.Perm.cons _ (vC (Nat.lt_of_succ_lt_succ h)))
theorem z9{a:Type}(next:Nat->Nat):∀(n k:Nat)(left:List a)(out:Array a),left.length=n->(pickOrder.go next n k left out).toList.Perm (out.toList++left)|0,k,left,out,e=>by have :left=[]:=List.length_eq_zero_iff.mp e;subst this;unfold pickOrder.go;simp|n+1,k,left,out,e=>by unfold pickOrder.go;have hl:next k%left.length<left.length:=Nat.mod_lt _ (by omega);rw[zQ03 hl];dsimp only;refine(z9 next n (k+1) _ _ (by rw[List.length_eraseIdx_of_lt hl];omega)).trans ?_;rw[Array.toList_push,fk];exact List.Perm.append_left _ (vC hl)
theorem tE{a:Type}(next:Nat->Nat)(xs:Array a):(pickOrder next xs).toList.Perm xs.toList:=by unfold pickOrder;exact(z9 next _ 0 xs.toList #[] (by simp)).trans (by simp)
section
variable{prog:Program}{w:World}{A:Around}{E:Value->Shared->Prop}{s:Shared}
theorem Gq{src:Source}{n:Nat}{Q:Nat->Shared->Prop}(hn:n≠0)(h:∀i d,i<n->Q i {s with drawn:=d}):wpAny (model prog w) A (choose src n) Q E s:=λ_ _ _=>⟨hn,h _ _ (Nat.mod_lt _ (Nat.pos_of_ne_zero hn))⟩
theorem Gk{b:Type}:∀(n:Nat)(xs:List b)(s:Shared)(Q:List b->Shared->Prop),xs.length=n->(∀a d,a.Perm xs->Q a {s with drawn:=d})->wpAny (model prog w) A (drawOrder n xs) Q E s|0,xs,s,Q,e,h=>by have :xs=[]:=List.length_eq_zero_iff.mp e;subst this;unfold drawOrder;exact zQ02 (h [] s.drawn (List.Perm.refl _))|n+1,[],s,Q,e,h=>by simp at e|n+1,x::xs,s,Q,e,h=>by unfold drawOrder;refine zQ00 (Gq (by simp) λi d hi=>?_);rw[zQ03 hi];dsimp only;refine zQ00 (Gk n _ _ _ (by rw[List.length_eraseIdx_of_lt hi];simp at e⊢;omega) λa d' c=>zQ02 (h _ d' ?_));exact(List.Perm.cons _ c).trans (vC hi)
theorem cj{a:Type}{M:Model}{c:Prop}[Decidable c]{m n:Sem a}{Q:a->Shared->Prop}(h1:c->wpAny M A m Q E s)(h2:¬c->wpAny M A n Q E s):wpAny M A (if c then m else n) Q E s:=by
 by_cases hc:c;·rw[if_pos hc];exact h1 hc
 ·rw[if_neg hc];exact h2 hc
noncomputable abbrev l_(first:Value)(i:Nat)(S:Addr)(n ep:Nat):Obj:={cls:= .type "set_iterator",data:= .fields #[first, .int i 0, .ref S, .int n 0, .int ep 0]}
inductive Md(w:World)(es:Array (Int×Value))(ep:Nat)(t:SetTable)(S:Addr)(ord:List Value):Nat->Value->Heap->Prop|txt{i:Nat}{h:Heap}(hb:w.params.followText "set-order"=true)(ho:ord=(pickOrder (w.params.setOrder S ep) es).toList.map (·.2)):Md w es ep t S ord i (.int (0:Nat) 0) h|led{i j:Nat}{h:Heap}(hb:w.params.followText "set-order"=false)(hd:(!t.plain&&decide (es.size>1))=false)(ho:ord=es.toList.map (·.2))(hj:SetTable.below t.place j=i):Md w es ep t S ord i (.int (j:Nat) 0) h|QC{i:Nat}{h:Heap}{T:Addr}{os:List Nat}(ht:h.get? T=some {cls:= .type "tuple",data:= .seq (os.map λ(k:Nat)=>Value.int k 0).toArray})(hl:ord.length=os.length)(ho:∀(i k:Nat),os[i]?=some k->∃e:Int×Value,es[k]?=some e/\ord[i]?=some e.2):Md w es ep t S ord i (.ref T) h
end
section
variable{prog:Program}{w:World}{A:Around}{E:Value->Shared->Prop}{s:Shared}
noncomputable def Xf(w:World)(es:Array (Int×Value))(ep:Nat)(t:SetTable)(S I:Addr)(ord:List Value)(i:Nat)(s:Shared):Prop:=s.heap.get? S=some (sobj es ep t)/\∃first,s.heap.get? I=some (l_ first i S es.size ep)/\Md w es ep t S ord i first s.heap
theorem JQ{es:Array (Int×Value)}{ep:Nat}{t:SetTable}{S:Addr}{ord:List Value}{i:Nat}{first:Value}{h h':Heap}{fp:List Addr}(m:Md w es ep t S ord i first h)(hT:∀T,first= .ref T->T∈fp)(k:∀b∈fp,∀o,h.get? b=some o->h'.get? b=some o):Md w es ep t S ord i first h':=by cases m with|txt hb ho=>exact .txt hb ho|led hb hd ho hj=>exact .led hb hd ho hj|QC ht hl ho=>exact .QC (k _ (hT _ rfl) _ ht) hl ho
theorem F3{d:Type}{f:d->Shared->Prop}{c:Value->Shared->Prop}(hh:A.handled=none)(h:∀h' e o,h'.get? e=some o->o.cls= .type "StopIteration"->(∀b o,s.heap.get? b=some o->h'.get? b=some o)->c (.ref e) {s with heap:=h'}):wpAny (model prog w) A (newExc (.type "StopIteration") []>>=raiseNew:Sem d) f c s:=by refine zQ00 ?_;simp only[newExc,newTuple];refine zQ00 (iW ?_ (by size_fits));refine zQ00 (m:=firstArgMember _ _) (wpAny_of_eq (a:=Value.none) (by first|rfl|(simp only[firstArgMember];rfl)) ?_);refine iW ?_ (by size_fits);simp only[raiseNew];refine zQ00 (wpAny_handled ?_);rw[hh];refine zQ00 (zQ02 (wpAny_throw ?_));exact h _ _ _ (zQ11 _ rfl) rfl λb o e=>zQ01 _ (zQ01 _ e)
theorem yH{xs:Array Nat}(hr:CH xs){i j:Nat}(e:xs[i]?=some j):SetTable.below xs (j+1)=i+1:=by
 obtain⟨hi,f⟩:=Array.getElem?_eq_some_iff.mp e;obtain⟨c,a,b⟩:=qr hr (j+1);have d:xs.getD i 0=j:=by rw[Array.getD_eq_getD_getElem?,e];rfl
 have h1:i<SetTable.below xs (j+1):=by
  rcases Nat.lt_or_ge i (SetTable.below xs (j+1))with z|z;·exact z
  ·have :=b i z hi;omega
 rcases Nat.lt_or_ge (i+1) (SetTable.below xs (j+1))with z|z;·have q1:=a (i+1) z;have q2:=hr.lt (i:=i) (j:=i+1) (by omega) (by omega);omega
 ·omega
theorem Ds(hh:A.handled=none){es:Array (Int×Value)}{ep:Nat}{t:SetTable}{S I:Addr}{ord:List Value}{C:List Addr}(g:t.fits es.size=true)(ht:Tbl (ledW w) t)(hlen:ord.length=es.size)(hne:S≠I)(W:I∉C):WalksS prog w A I (I::S::C) [I] (λa b=>b=a) es.size (λi v=>ord[i]?=some v) (λi s=>Xf w es ep t S I ord i s/\∀first T,(s.heap.get? I).map (·.data)=some (.fields #[first, .int i 0, .ref S, .int es.size 0, .int ep 0])->first= .ref T->T∈C)where
 sub:=λb hb=>by rw[List.mem_singleton]at hb;subst hb;exact cT
 grefl:=λ_=>rfl;gtrans:=λ_ _ _ h1 h2=>h2.trans h1;frame:=λi s h' tk st _ n=>by obtain⟨⟨hS,first,c,hm⟩,hT⟩:=st;have N:=n I cT _ c;refine⟨⟨n S (by simp) _ hS,first,N,JQ hm (fp:=I::S::C) (λT e=>by simp[hT first T (by rw[c];rfl) e]) n⟩,λf T p F=>?_⟩;rw[N]at p;exact hT f T (by rw[c];exact p) F
 item:=λi s Q E hi st u=>by
  obtain⟨⟨hS,first,c,hm⟩,hT⟩:=st;have l:s.TypeIs (.ref I) "set_iterator":=⟨_,c,rfl⟩;have Y:t.place.size=es.size:=by simp only[SetTable.fits,bE,beq_iff_eq]at g;exact g.1
  unfold pyNext;refine zQ00 (wpAny_attempt (wpAny_callSpecial?_slot (name:=Str.ofString "__next__") l tQ (gj tQ l L0 ?_ (ML _))));refine zQ00 (m:=fieldsOf (.ref I)) (wpAny_fieldsOf c rfl ?_);refine zQ00 (wpAny_setEntries_of hS rfl g ?_);refine cj (λz=>absurd z (by simp)) λ_=>?_;have put2:∀(j:Nat)(x:Value)(B:_->Shared->Prop)(M:Value->Shared->Prop),ord[i]?=some x->Md w es ep t S ord (i+1) (.int j 0) s.heap->(∀s',Xf w es ep t S I ord (i+1) s'->(∀first T,(s'.heap.get? I).map (·.data)=some (.fields #[first, .int ((i+1:Nat):Int) 0, .ref S, .int es.size 0, .int ep 0])->first= .ref T->T∈C)->Moved [I] (λa b=>b=a) s s'->B (.done (.ret x)) s')->wpAny (model prog w) A.in1 (do setField (.ref I) 0 (rawInt j);setField (.ref I) 1 (rawInt ((i:Int)+1));ret x) B M s:=by
   intro j x B M hx X k;refine zQ00 (wpAny_setField_rec c (by simp) λh1 G y=>zQ00 (wpAny_setField_rec G (by simp) λh2 V sb2=>zQ02 ?_));have H:h2.get? I=some (l_ (.int j 0) (i+1) S es.size ep):=by rw[V];simp[l_,rawInt]
   have D:∀b o,b≠I->s.heap.get? b=some o->h2.get? b=some o:=λb o hb e=>by rw[sb2.2 b hb,y.2 b hb];exact e
   refine k {s with heap:=h2} ⟨D S _ hne hS,_,H,?_⟩ (λf T p F=>?_) ⟨λb o hb e=>D b o (λz=>hb (by rw[z];exact List.mem_singleton.mpr rfl)) e,rfl,rfl,rfl,zQ04 _⟩;·cases X with|txt hb ho=>exact .txt hb ho|led hb hd ho hj=>exact .led hb hd ho hj
   ·rw[H]at p;have :=congrArg (λd=>match d with|some (Data.fields vs)=>vs[0]?|_=>none) p;simp at this;rw[F]at this;cases this
  obtain⟨v,hv⟩:∃v,ord[i]?=some v:=⟨_,zQ03 (by omega)⟩;cases hm with
   |txt hb ho=>
    refine zQ00 ?_;unfold setNext;refine zQ00 (wpAny_setState_of hS rfl g (zQ00 (zQ00 (wpAny_askSetting (zQ02 ?_)))));refine cj (λ_=>?_) λz=>absurd hb z;refine cj (λz=>absurd z (by simp)) λ_=>?_;refine zQ00 ?_;unfold setWalk;refine zQ00 (wpAny_setState_of hS rfl g (zQ00 (zQ00 (wpAny_askSetting (zQ02 ?_)))));refine cj (λ_=>zQ00 (wpAny_askSetting (zQ02 ?_))) λz=>absurd hb z;have h:((pickOrder (w.params.setOrder S ep) es)[i]?).map (λe=>(e.2,(0:Nat)))=some (v,0):=by rw[ho,fi,Array.getElem?_toList]at hv;cases q:(pickOrder (w.params.setOrder S ep) es)[i]? with|none=>rw[q]at hv;cases hv|some e=>rw[q]at hv;cases hv;rfl
    refine zQ02 ?_;show wpAny (model prog w) A.in1 (match Option.map (λe=>(e.2,(0:Nat))) (pickOrder (w.params.setOrder S ep) es)[i]? with|some (x,next)=>_|none=>_) _ _ s;rw[h];exact put2 0 v _ _ hv (.txt hb ho) λs' xn r L=>⟨v,rfl,zQ02 (u v s' hv ⟨xn,r⟩ L)⟩
   |led hb hd ho hj=>
    rename_i j;refine zQ00 ?_;unfold setNext;refine zQ00 (wpAny_setState_of hS rfl g (zQ00 (zQ00 (wpAny_askSetting (zQ02 ?_)))));refine cj (λz=>absurd (hb.symm.trans z) (by decide)) λ_=>?_;refine cj (λz=>absurd (hd.symm.trans z) (by decide)) λ_=>?_;have K:t.led=true:=by rw[ht.led,ledW,hb];rfl
    refine zQ00 (cj (λz=>absurd z (by rw[K];simp)) λ_=>zQ02 ?_);refine zQ02 ?_;obtain⟨k,n⟩:∃k,t.place[i]?=some k:=⟨_,getElem?_pos _ i (by omega)⟩;have he:∃J,es[i]?=some (J,v):=by rw[ho,fi,Array.getElem?_toList]at hv;cases q:es[i]? with|none=>rw[q]at hv;cases hv|some e=>rw[q]at hv;cases hv;exact⟨e.1,rfl⟩
    obtain⟨J,he⟩:=he;have h:(match es[SetTable.below t.place j]?,t.place[SetTable.below t.place j]? with|some (_,x),some j=>some (x,j+1)|_,_=>none)=some (v,k+1):=by rw[hj,he,n]
    show wpAny (model prog w) A.in1 (match(match es[SetTable.below t.place j]?,t.place[SetTable.below t.place j]? with|some (_,x),some j=>some (x,j+1)|_,_=>none)with|some (x,next)=>_|none=>_) _ _ s;rw[h];exact put2 (k+1) v _ _ hv (.led hb hd ho (yH ht.V8 n)) λs' xn r L=>⟨v,rfl,zQ02 (u v s' hv ⟨xn,r⟩ L)⟩
   |QC r hl ho=>
    rename_i T os;obtain⟨k,n⟩:∃k,os[i]?=some k:=⟨_,zQ03 (by omega)⟩;obtain⟨e,he,R⟩:=ho i k n;rw[R]at hv;refine zQ00 (wpAny_seqItems r rfl ?_);have h:(os.map λ(k:Nat)=>Value.int k 0).toArray[i]?=some (.int k 0):=by rw[List.getElem?_toArray,fi,n];rfl
    show wpAny (model prog w) A.in1 (match(os.map λ(k:Nat)=>Value.int k 0).toArray[i]? with|some (.int place _)=>_|some _=>_|none=>_) _ _ s;rw[h];refine zQ00 ?_;unfold setNextDrawn;refine zQ00 (wpAny_setState_of hS rfl g ?_);refine cj (λz=>absurd z (by simp)) λ_=>?_;show wpAny (model prog w) A.in1 (match es[k]? with|some (_,x)=>_|_=>_) _ _ s;rw[he];refine zQ02 ?_;refine zQ00 (wpAny_setField_rec c (by simp) λh1 G y=>zQ02 ⟨_,rfl,zQ02 ?_⟩);have H:h1.get? I=some (l_ (.ref T) (i+1) S es.size ep):=by rw[G];simp[l_,rawInt]
    have D:∀b o,b≠I->s.heap.get? b=some o->h1.get? b=some o:=λb o hb e=>by rw[y.2 b hb];exact e
    have O:T∈C:=hT _ T (by rw[c];rfl) rfl;refine u _ _ R ⟨⟨D S _ hne hS,_,H, .QC (D T _ (λz=>W (z▸O)) r) hl ho⟩,λf T' p F=>?_⟩ ⟨λb o hb e=>D b o (λz=>hb (by rw[z];exact List.mem_singleton.mpr rfl)) e,rfl,rfl,rfl,zQ04 _⟩;rw[H]at p;have :=congrArg (λd=>match d with|some (Data.fields vs)=>vs[0]?|_=>none) p;simp at this;rw[F]at this;cases this;exact O
 done:=λs Q E st u=>by
  obtain⟨⟨hS,first,c,hm⟩,hT⟩:=st;have l:s.TypeIs (.ref I) "set_iterator":=⟨_,c,rfl⟩;have Y:t.place.size=es.size:=by simp only[SetTable.fits,bE,beq_iff_eq]at g;exact g.1
  unfold pyNext;refine zQ00 (wpAny_attempt (wpAny_callSpecial?_slot (name:=Str.ofString "__next__") l tQ (gj tQ l L0 ?_ (ML _))));refine zQ00 (m:=fieldsOf (.ref I)) (wpAny_fieldsOf c rfl ?_);refine zQ00 (wpAny_setEntries_of hS rfl g ?_);refine cj (λz=>absurd z (by simp)) λ_=>?_;have P:A.in1.handled=none:=hh;have stop:∀(h':Heap)(e:Addr)(o:Obj),h'.get? e=some o->o.cls= .type "StopIteration"->(∀b o,b≠I->s.heap.get? b=some o->h'.get? b=some o)->wpAny (model prog w) A (do if<-isInstance (.ref e) (Value.type "StopIteration")then pure none else throw (Value.ref e)) Q E {s with heap:=h'}:=λh' e o he hc k=>zQ00 (wpAny_isInstance (T:="StopIteration") (b:=true) ⟨o,he,hc⟩ isSubtype_stop (zQ02 (u _ ⟨λb o hb e=>k b o (λz=>hb (by rw[z];exact List.mem_singleton.mpr rfl)) e,rfl,rfl,rfl,zQ04 _⟩)));have fin:∀B,wpAny (model prog w) A.in1 (do setField (.ref I) 2 Value.none;raiseNew (<-newExc (.type "StopIteration") []):Sem Fin) B (λe s'=>wpAny (model prog w) A (do if<-isInstance e (Value.type "StopIteration")then pure none else throw e) Q E s') s:=λB=>by refine zQ00 (wpAny_setField_rec c (by simp) λh1 G y=>F3 P λh2 e o he hc k=>?_);exact stop h2 e o he hc λb o hb e=>k b o (by show h1.get? b=some o;rw[y.2 b hb];exact e)
  cases hm with
   |txt hb ho=>
    refine zQ00 ?_;unfold setNext;refine zQ00 (wpAny_setState_of hS rfl g (zQ00 (zQ00 (wpAny_askSetting (zQ02 ?_)))));refine cj (λ_=>?_) λz=>absurd hb z;refine cj (λz=>absurd z (by simp)) λ_=>?_;refine zQ00 ?_;unfold setWalk;refine zQ00 (wpAny_setState_of hS rfl g (zQ00 (zQ00 (wpAny_askSetting (zQ02 ?_)))));refine cj (λ_=>zQ00 (wpAny_askSetting (zQ02 ?_))) λz=>absurd hb z;have h:((pickOrder (w.params.setOrder S ep) es)[es.size]?).map (λe=>(e.2,(0:Nat)))=none:=by rw[Array.getElem?_eq_none (by rw[<-Array.length_toList,(tE _ es).length_eq,Array.length_toList];exact zQ04 _)];rfl
    refine zQ02 ?_;show wpAny (model prog w) A.in1 (match Option.map (λe=>(e.2,(0:Nat))) (pickOrder (w.params.setOrder S ep) es)[es.size]? with|some (x,next)=>_|none=>_) _ _ s;rw[h];exact fin _
   |led hb hd ho hj=>
    rename_i j;refine zQ00 ?_;unfold setNext;refine zQ00 (wpAny_setState_of hS rfl g (zQ00 (zQ00 (wpAny_askSetting (zQ02 ?_)))));refine cj (λz=>absurd (hb.symm.trans z) (by decide)) λ_=>?_;refine cj (λz=>absurd (hd.symm.trans z) (by decide)) λ_=>?_;have K:t.led=true:=by rw[ht.led,ledW,hb];rfl
    refine zQ00 (cj (λz=>absurd z (by rw[K];simp)) λ_=>zQ02 ?_);refine zQ02 ?_;have h:(match es[SetTable.below t.place j]?,t.place[SetTable.below t.place j]? with|some (_,x),some j=>some (x,j+1)|_,_=>none)=none:=by rw[hj,Array.getElem?_eq_none (zQ04 _)]
    show wpAny (model prog w) A.in1 (match(match es[SetTable.below t.place j]?,t.place[SetTable.below t.place j]? with|some (_,x),some j=>some (x,j+1)|_,_=>none)with|some (x,next)=>_|none=>_) _ _ s;rw[h];exact fin _
   |QC r hl ho=>
    rename_i T os;refine zQ00 (wpAny_seqItems r rfl ?_);have h:(os.map λ(k:Nat)=>Value.int k 0).toArray[es.size]?=none:=by rw[List.getElem?_toArray,List.getElem?_eq_none (by rw[br];omega)]
    show wpAny (model prog w) A.in1 (match(os.map λ(k:Nat)=>Value.int k 0).toArray[es.size]? with|some (.int place _)=>_|some _=>_|none=>_) _ _ s;rw[h];refine zQ00 (wpAny_setField_rec c (by simp) λJ U Z=>zQ00 (wpAny_setField_rec U (by simp) λh1 G y=>F3 P λh2 e o he hc k=>?_));exact stop h2 e o he hc λb o hb e=>k b o (by show h1.get? b=some o;rw[y.2 b hb,Z.2 b hb];exact e)
 self:=λi s Q E st u=>by obtain⟨⟨hS,first,c,hm⟩,hT⟩:=st;have l:s.TypeIs (.ref I) "set_iterator":=⟨_,c,rfl⟩;exact wpAny_pyIter_slot l L9 (gj L9 l S9 (zQ02 ⟨_,rfl,"set_iterator",_,l,tQ.lookup,u⟩) (Ti _))
end
section
variable{prog:Program}{w:World}{A:Around}{E:Value->Shared->Prop}{s:Shared}
theorem yJ{xs:Array Nat}(hr:CH xs):SetTable.below xs 0=0:=by
 obtain⟨b,a,c⟩:=qr hr 0;rcases Nat.eq_zero_or_pos (SetTable.below xs 0)with z|z;·exact z
 ·have :=a 0 z;omega
theorem DR{S:Addr}{es:Array (Int×Value)}{ep:Nat}{t:SetTable}{Q:Value->Shared->Prop}(hS:s.heap.get? S=some (sobj es ep t))(y:t.fits es.size=true)(ht:Tbl (ledW w) t)(O:es.size<scanBound)(h:∀(h':Heap)(d:Drawn)(I:Addr)(u:List Addr)(ord:List Value),Xf w es ep t S I ord 0 {s with heap:=h',drawn:=d}->(∀first T,(h'.get? I).map (·.data)=some (.fields #[first, .int (0:Nat) 0, .ref S, .int es.size 0, .int ep 0])->first= .ref T->T∈u)->ord.Perm (es.toList.map (·.2))->I∉u->s.heap.objs.size<=I->(∀b,b∈u->s.heap.objs.size<=b)->(∀b,b∈I::S::u->b<h'.objs.size)->(∀b o,s.heap.get? b=some o->h'.get? b=some o)->Q (.ref I) {s with heap:=h',drawn:=d}):wpAny (model prog w) A (pyIter (.ref S)) Q E s:=by
 have F:s.TypeIs (.ref S) "set":=⟨_,hS,rfl⟩;have hlt:S<s.heap.objs.size:=zQ07 hS;refine wpAny_pyIter_slot F Ml (gj Ml F VH ?_ (PySem.F.args_set_iter_1 _));refine zQ00 (m:=Builtin.Frozenset.slot0 "__iter__" ⟨[.ref S],[]⟩) (zQ02 ?_);refine zQ00 (zQ00 (wpAny_setEntries_of hS rfl y (zQ02 ?_)));refine zQ00 ?_;unfold setDrawn;refine zQ00 (wpAny_setState_of hS rfl y (zQ00 (zQ00 (wpAny_askSetting (zQ02 ?_)))));refine zQ02 ?_;have plain:∀(first:Value)(ord:List Value),first= .int (0:Nat) 0->Md w es ep t S ord 0 first s.heap->ord.Perm (es.toList.map (·.2))->∀B,(∀h' d I,Q (.ref I) {s with heap:=h',drawn:=d}->(∃o,h'.get? I=some o/\o.cls= .type "set_iterator")->B (.done (.ret (.ref I))) {s with heap:=h',drawn:=d})->wpAny (model prog w) A.in1 (do ret (<-newFields "set_iterator" [first,rawInt 0, .ref S,rawInt es.size,rawInt (<-setEpoch S)])) B E s:=by
  intro first ord p N j B k;subst p;refine zQ00 (wpAny_setEpoch_of hS rfl y (zQ00 (iW (zQ02 ?_))));have g:(s.heap.push (l_ (.int (0:Nat) 0) 0 S es.size ep)).get? s.heap.objs.size=some (l_ (.int (0:Nat) 0) 0 S es.size ep):=zQ11 _ rfl;refine k (s.heap.push (l_ (.int (0:Nat) 0) 0 S es.size ep)) s.drawn s.heap.objs.size (h _ _ _ [] ord ⟨zQ01 _ hS,_,g,?_⟩ (λf T a n=>?_) j (by simp) (zQ04 _) (λb hb=>by simp at hb) (λb hb=>?_) λb o e=>zQ01 _ e) ⟨_,g,rfl⟩;·cases N with|txt hb ho=>exact .txt hb ho|led hb hd ho hj=>exact .led hb hd ho hj
  ·rw[g]at a;have :=congrArg (λd=>match d with|some (Data.fields vs)=>vs[0]?|_=>none) a;simp at this;rw[n]at this;cases this
  ·rw[zQ28];rcases List.mem_cons.mp hb with z|z;·rw[z];exact Nat.lt_succ_self _
   ·rw[List.mem_singleton.mp z];exact Nat.lt_succ_of_lt hlt
 have fin:∀h' d I,Q (.ref I) {s with heap:=h',drawn:=d}->(∃o,h'.get? I=some o/\o.cls= .type "set_iterator")->∃v,PySem.Fin.done (.ret (.ref I))=PySem.Fin.done (.ret v)/\∃T r,Shared.TypeIs {s with heap:=h',drawn:=d} v T/\typeLookup (.type T) (Str.ofString "__next__")=pure (some r)/\Q v {s with heap:=h',drawn:=d}:=λh' d I q⟨o,a,n⟩=>⟨_,rfl,"set_iterator",_,⟨o,a,n⟩,tQ.lookup,q⟩;cases hb:w.params.followText "set-order"with
  |true=>
   refine cj (λz=>?_) λ_=>?_;·exfalso;have :(!w.params.followText "set-order"&&(!t.plain&&decide (es.size>1)))=true:=z;rw[hb]at this;cases this
   ·refine zQ00 (zQ02 ?_);exact plain _ _ rfl (.txt hb rfl) ((tE _ es).map _) _ λh' d I q o=>fin h' d I q o
  |false=>
   refine cj (λz=>?_) λz=>?_
   ·refine zQ00 (Gk es.size (List.range es.size) _ _ (by simp) λos d j=>?_);refine zQ00 (m:=newTuple (os.map λ(i:Nat)=>rawInt i)) ?_;refine iW ?_ (by show(os.map λ(i:Nat)=>rawInt i).toArray.size<=_;rw[cw,br,j.length_eq,List.length_range];exact fits_of_scanBound O);have D:=zQ01 {cls:= .type "tuple",data:= .seq (os.map λ(i:Nat)=>rawInt i).toArray} hS;refine zQ00 (wpAny_setEpoch_of D rfl y (zQ00 (iW (zQ02 ?_))));have hol:os.length=es.size:=by rw[j.length_eq,List.length_range]
    have H:∀i k,os[i]?=some k->k<es.size:=λi k e=>by obtain⟨l,K⟩:=List.getElem?_eq_some_iff.mp e;have :=j.mem_iff.mp (K▸List.getElem_mem l);exact List.mem_range.mp this
    obtain⟨ord,G⟩:∃ord,ord=os.filterMap (λk=>(es.toList.map (·.2))[k]?):=⟨_,rfl⟩;have p:(es.toList.map (·.2)).length=es.size:=by rw[br,Array.length_toList]
    have J:ord.Perm (es.toList.map (·.2)):=by rw[G];refine(j.filterMap _).trans (List.Perm.of_eq ?_);rw[<-p];exact List.filterMap_getElem?_range_length _
    have M:∀(l:List Nat),(∀k,k∈l->k<es.size)->∀(i k:Nat),l[i]?=some k->(l.filterMap (λk=>(es.toList.map (·.2))[k]?))[i]?=(es.toList.map (·.2))[k]?:=by intro l;induction l with|nil=>intro _ i k e;simp at e|cons x l P=>intro hl i k e;have R:=hl x cT;rw[List.filterMap_cons,zQ03 (l:=es.toList.map (·.2)) (i:=x) (by omega)];cases i with|zero=>simp at e;subst e;rw[zQ03 (l:=es.toList.map (·.2)) (i:=x) (by omega)];rfl|succ i=>exact P (λk c=>hl k (dB _ c)) i k (by simpa using e)
    have C:((s.heap.push {cls:= .type "tuple",data:= .seq (os.map λ(i:Nat)=>rawInt i).toArray}).push (l_ (.ref s.heap.objs.size) 0 S es.size ep)).get? (s.heap.push {cls:= .type "tuple",data:= .seq (os.map λ(i:Nat)=>rawInt i).toArray}).objs.size=some (l_ (.ref s.heap.objs.size) 0 S es.size ep):=zQ11 _ rfl;have L:((s.heap.push {cls:= .type "tuple",data:= .seq (os.map λ(i:Nat)=>rawInt i).toArray}).push (l_ (.ref s.heap.objs.size) 0 S es.size ep)).get? s.heap.objs.size=some {cls:= .type "tuple",data:= .seq (os.map λ(i:Nat)=>rawInt i).toArray}:=zQ01 _ (zQ11 _ rfl);refine fin _ d (s.heap.push {cls:= .type "tuple",data:= .seq (os.map λ(i:Nat)=>rawInt i).toArray}).objs.size (h ((s.heap.push {cls:= .type "tuple",data:= .seq (os.map λ(i:Nat)=>rawInt i).toArray}).push (l_ (.ref s.heap.objs.size) 0 S es.size ep)) d _ [s.heap.objs.size] ord ⟨zQ01 _ D,_,C, .QC L ?_ ?_⟩ (λf T a n=>?_) J ?_ ?_ (λb hb=>by rw[List.mem_singleton.mp hb];exact zQ04 _) (λb hb=>?_) λb o e=>zQ01 _ (zQ01 _ e)) ⟨_,C,rfl⟩;·rw[J.length_eq,p,hol]
    ·intro i k e;have c:=H i k e;refine⟨es[k],getElem?_pos es k c,?_⟩;rw[G,M os (λk c=>by obtain⟨i,hi,e⟩:=List.getElem_of_mem c;exact H i k (by rw[zQ03 hi,e])) i k e,fi,Array.getElem?_toList,getElem?_pos es k c];rfl
    ·rw[C]at a;have :=congrArg (λd=>match d with|some (Data.fields vs)=>vs[0]?|_=>none) a;simp at this;rw[n]at this;cases this;exact List.mem_singleton.mpr rfl
    ·rw[zQ28,List.mem_singleton];exact Nat.ne_of_gt (Nat.lt_succ_self _)
    ·rw[zQ28];exact Nat.le_succ _
    ·rw[zQ28,zQ28];rcases List.mem_cons.mp hb with z|z;·rw[z,zQ28];exact Nat.lt_succ_self _
     ·rcases List.mem_cons.mp z with z|z;·rw[z];exact Nat.lt_succ_of_lt (Nat.lt_succ_of_lt hlt)
      ·rw[List.mem_singleton.mp z];exact Nat.lt_succ_of_lt (Nat.lt_succ_self _)
   ·refine zQ00 (zQ02 ?_);have hd:(!t.plain&&decide (es.size>1))=false:=by have :¬(!w.params.followText "set-order"&&(!t.plain&&decide (es.size>1)))=true:=z;rw[hb]at this;simpa using this
    exact plain _ _ rfl (.led hb hd rfl (yJ ht.V8)) (List.Perm.refl _) _ λh' d I q o=>fin h' d I q o
end
theorem KC:typeLookup (.type "set") "__len__"=pure (some (.builtin "set.__len__")):=by rw[typeLookup_type,builtinLookup_eq_fast];kernel_rfl
theorem JI:splitId "set.__len__"=some ("set","__len__"):=by decide+kernel
section
variable{prog:Program}{w:World}{A:Around}{E:Value->Shared->Prop}{s:Shared}
theorem vW{S:Addr}{ks:List Int}{Q:List Value->Shared->Prop}(hh:A.handled=none)(hS:SetI prog w s.heap S ks)(h:∀h' d tk vs ns,IntsAre vs ns->ns.Perm ks->s.heap.objs.size<=h'.objs.size->(∀b o,s.heap.get? b=some o->h'.get? b=some o)->Q vs {s with heap:=h',drawn:=d,toks:=tk}):wpAny (model prog w) A (collect (.ref S)) Q E s:=by
 obtain⟨es,ep,t,r,R,V,G,y,ht⟩:=hS;have hlt:S<s.heap.objs.size:=zQ07 r;unfold collect;refine zQ00 (wpAny_runValue (codeAny_builtin F.entry_proto_collect ?_));rw[Around.under_plainId F.plain_proto_collect _];refine zQ00 (m:=newList []) (iW ?_);refine zQ02 ⟨plainId_quiet F.plain_list_iadd _,codeAny_builtin F.entry_list_iadd ?_⟩;rw[Around.under_plainId F.plain_list_iadd _];obtain⟨lo,Z⟩:∃lo:Obj,lo={cls:= .type "list",data:= .seq ([]:List Value).toArray}:=⟨_,rfl⟩;show wpAny _ A.in1 (Builtin.List.listExtendWith (.ref s.heap.objs.size) (.ref S) (.ref s.heap.objs.size)) _ _ _;unfold Builtin.List.listExtendWith;have u:(s.heap.push {cls:= .type "list",data:= .seq ([]:List Value).toArray}).get? S=some (sobj es ep t):=zQ01 _ r;refine zQ00 (wpAny_typeOf (T:="set") ⟨_,u,rfl⟩ ?_);have h1:Builtin.List.listSameRef (.ref s.heap.objs.size) (.ref S)=false:=by simp[Builtin.List.listSameRef];exactλz=>Nat.lt_irrefl _ (z▸hlt)
 rw[if_neg (by rw[h1];decide)];refine zQ00 (DR u y ht G λh2 d I M ord D hT g N a B Y C=>?_);have l:h2.get? s.heap.objs.size=some {cls:= .type "list",data:= .seq ([]:List Value).toArray}:=C _ _ (zQ11 _ rfl);have hne:S≠I:=λz=>by rw[zQ28]at a;rw[<-z]at a;exact Nat.lt_irrefl _ (eB hlt (cB (Nat.le_succ _) a))
 have c:Shared.TypeIs {s with heap:=h2,drawn:=d} (.ref S) "set":=⟨_,D.1,rfl⟩;refine zQ00 (eN ?_);unfold Builtin.List.listLengthHint;refine zQ00 (wpAny_specialOf c KC ?_);(generalize f:("set.__len__":String)=H;(fail_if_success(clear f H));wp_delta;rw[show splitId H=some ("set","__len__")from by subst f;exact JI];subst f);refine zQ00 (wpAny_isInstance (b:=true) c sub_set_self ?_);refine cj (λz=>nomatch z) λ_=>?_;refine cj (λ_=>?_) λz=>absurd (by decide+kernel) z;refine zQ00 (wpAny_typeOf c (zQ02 ?_));refine cj (λ_=>?_) λz=>absurd (by decide+kernel) z;refine zQ00 (wpAny_rule (zQ00 ?_));refine zQ00 (m:=updateSeq s.heap.objs.size (·.push .none)) (wpAny_updateSeq l rfl ?_);have p:=mv (Obj.mapSeq (·.push Value.none)) l rfl;refine wpAny_updateSeq p rfl ?_;have O:=mv (Obj.mapSeq (·.pop)) p rfl;have J:∀b o,b≠s.heap.objs.size->h2.get? b=some o->((h2.update s.heap.objs.size (Obj.mapSeq (·.push Value.none))).update s.heap.objs.size (Obj.mapSeq (·.pop))).get? b=some o:=λb o hb e=>(gF _ _ (Ne.symm hb)).trans ((gF _ _ (Ne.symm hb)).trans e);have hSf:s.heap.objs.size∉I::S::M:=λz=>by
  rw[zQ28]at a B;rcases List.mem_cons.mp z with z|z;·rw[<-z]at a;exact Nat.lt_irrefl _ a
  ·rcases List.mem_cons.mp z with z|z;·rw[<-z]at hlt;exact Nat.lt_irrefl _ hlt
   ·exact Nat.lt_irrefl _ (B _ z)
 have hlen:ord.length=es.size:=by rw[g.length_eq,br,Array.length_toList]
 have W:=Ds (prog:=prog) (A:=A.in1) hh y ht hlen hne N (ep:=ep);refine zQ02 ⟨plainId_quiet F.plain_extend_loop _,codeAny_extend_loopS W (fits_of_scanBound G) _ hSf _ es.size 0 _ _ _ (by omega) (zQ27 _) (W.frame 0 {s with heap:=h2,drawn:=d} _ s.toks ⟨D,hT⟩ (zQ04 _) λb hb o e=>J b o (λz=>hSf (z▸hb)) e) O (ItemsOf.nil _) λs' i X hm hS' x=>?_⟩;refine zQ00 (m:=load s.heap.objs.size) (wpAny_load hS' (zQ02 ?_));have L:i.toList=ord:=by refine List.ext_getElem? λj=>?_;rw[Array.getElem?_toList];cases q:i[j]? with|some v=>exact(x.2 j v q).symm|none=>have :=Array.getElem?_eq_none_iff.mp q;rw[List.getElem?_eq_none (by rw[hlen,<-x.1];exact this)]
 obtain⟨h',g',d',tk',os'⟩:=s';have eg:g'=s.gens:=hm.gens;have ed:d'=d:=hm.drawn;have eo:os'=s.os:=hm.os;subst eg ed eo;have hints:∀v,v∈ord->∃n t,v= .int n t:=λv hv=>by obtain⟨e,he,rfl⟩:=List.mem_map.mp (g.mem_iff.mp hv);obtain⟨⟨k,U,_⟩,_⟩:=R e he;obtain⟨t,K⟩:=Value.isInt_shape U;exact⟨k,t,K⟩
 rw[L];refine h h' d' tk' ord (ord.map numOf) (intsAre_map ord hints) ?_ (Nat.le_of_lt (zQ07 hS')) λb o e=>?_;·refine(g.map numOf).trans ?_;rw[List.map_map];exact V
 ·have hb:b≠s.heap.objs.size:=zQ23 (zQ07 e);have P:b≠I:=λz=>by rw[zQ28]at a;exact Nat.lt_irrefl _ (eB (zQ07 e) (cB (Nat.le_succ _) (z▸a)))
  exact hm.heap b o (λz=>by
   rcases List.mem_cons.mp z with z|z;·exact hb z
   ·exact P (List.mem_singleton.mp z)) (J b o hb (C b o (zQ01 _ e)))
end
section
variable{prog:Program}{w:World}{A:Around}{E:Value->Shared->Prop}{s:Shared}
end
section
variable{prog:Program}{w:World}{A:Around}{E:Value->Shared->Prop}{s:Shared}
theorem sj{S:Addr}{ks:List Int}{Q:Value->Shared->Prop}(hh:A.handled=none)(hS:SetI prog w s.heap S ks)(n:ks.Nodup)(hl:ks.length<64)(h:∀h' d tk a(vs:List Value)(ns:List Int)(e:Nat),h'.get? a=some (seqObj "list" vs.toArray e)->s.heap.objs.size<=a->IntsAre vs ns->ns.Perm ks->ns.Pairwise (·<=·)->(∀b o,s.heap.get? b=some o->h'.get? b=some o)->Q (.ref a) {s with heap:=h',drawn:=d,toks:=tk}):wpAny (model prog w) A (call (.builtin "sorted") [.ref S]) Q E s:=by
 refine Calls.call_function_entry kind_sorted plain_sorted entry_sorted (args_sorted1 _) ?_;unfold Builtin.«sorted»;refine zQ00 (m:=checkCount "sorted" 1 1 _) (zQ02 ?_);refine zQ00 (vW (A:=A.in1) hh hS λh' d tk vs ns f g k j=>?_);have p:vs.length=ks.length:=by rw[IntsAre.length f,g.length_eq]
 refine zQ00 (wpAny_newList ?_ (by show vs.length<=_;rw[sizeLine_eq];omega));have c:(h'.push (seqObj "list" vs.toArray 0)).get? h'.objs.size=some (seqObj "list" vs.toArray 0):=zQ11 _ rfl;refine zQ00 (eN (gj slot_list_sort ⟨_,c,rfl⟩ entry_list_sort (list_sort_tree c f (by omega) λout l a1 a2 a3=>⟨_,rfl,?_⟩) (args_list_sort _)));refine zQ02 ⟨_,rfl,?_⟩;obtain⟨e,he⟩:=sortedHeap_at (out:=out) c;refine h _ d tk h'.objs.size out.toList l e (by simpa using he) k a1 (a2.trans g) a3 λb o i=>?_;have hb:=j b o i;rw[sortedHeap_old (zQ23 (zQ07 hb)) (by rw[size_push'];exact Nat.lt_succ_of_lt (zQ07 hb))];exact zQ01 _ hb
end
end SR
end
section
namespace L3
open PySem PySem.Spec PyProof.Rows L2
end L3
end
section
namespace L3
open PySem PySem.Spec PyProof.Rows L2 KM
end L3
end
section
namespace L3
open PySem PySem.Spec PyProof.Rows L2
theorem zq:∀(B:Nat)(l:List Int),l.Nodup->(∀z,z∈l->0<=z/\z<(B:Int))->l.length<=B
 |0,l,_,h=>by cases l with|nil=>simp|cons z l=>have :=h z cT;omega
 |B+1,l,hn,h=>by
  have :=zq B (l.erase (B:Int)) (hn.erase _) λz a=>by
   have h1:=h z (List.mem_of_mem_erase a);have h2:z≠(B:Int):=λe=>by rw[e]at a;exact(List.Nodup.mem_erase_iff hn).mp a|>.1 rfl
   omega
  rw[List.length_erase]at this;split at this<;>omega
theorem EY{l:List Int}(h1:l.Pairwise (·<=·))(h2:l.Nodup):l.Pairwise (·<·):=(h1.and h2).imp λ⟨a,b⟩=>by omega
theorem fU:∀{ns:List Int}{us:List Value},Vals (ns.map V.int) us->IntsAre us ns|[],_, .nil=> .nil|n::ns,_, .cons r t=>by obtain⟨k,rfl⟩:=r;exact .cons n k (fU t)
theorem sX:∀{ns:List Int}{us:List Value},IntsAre us ns->Vals (ns.map V.int) us|_,_, .nil=> .nil|_,_, .cons n t h=> .cons ⟨t,rfl⟩ (sX h)
theorem DT{X:Cx}{pins:List (Addr×Obj)}{s:Shared}{σ:L2.St}{H:Hp}(I:Inv X pins σ H s)(d:Drawn):Inv X pins σ H {s with drawn:=d}:=⟨I.ok,I.os,I.bare,I.base,I.loc,I.cell,I.free,I.d7,I.pin,I.bV,I.len⟩
noncomputable def Tc(K:PySem.W.Frag)(t:TA):TE:=λσ H Q=>t σ H λvs a=>∃(p:Addr)(ns:List Int),vs=[.ref p]/\aZ K a p (ns.map V.int)/\(∀z,z∈ns->0<=z/\z<63)/\∀l(b:List Int),a l=none->b.Pairwise (·<·)->(∀z,z∈b↔z∈ns)->Q (.ref l) (upd a l (.lst (b.map V.int)))
theorem uY{X:Cx}{e:Expr}{t:TA}{N r q1 q2:Pos}(hh:X.A.handled=none)(E:Gl X "sorted")(L:X.mg "sorted"=none)(F:Gl X "set")(M:X.mg "set"=none)(A:bootBuiltins "sorted"=some (.builtin "sorted"))(B:bootBuiltins "set"=some (.type "set"))(ha:PA X [e] t)(he:starEach [e] X.env=(false,eval e X.env)::starEach [] X.env:=by rfl):PE X (.Call (.Name "sorted" N) [.Call (.Name "set" r) [e] [] q2] [] q1) (Tc X.K t):=by
 intro pins s σ H Q I h;refine wpAny_Call_Name_kw (gr I E L A ?_ (by decide) (by decide));refine PyProof.Rows.callWith_builtin1 ?_;show wpAny _ _ (spliced ((false,eval (.Call (.Name "set" r) [e] [] q2) X.env)::backTo q1 (starEach [] X.env))) _ _ s;refine Calls.spliced_cons (wpAny_Call_Name_kw (gr I F M B ?_ (by decide) (by decide)));refine PyProof.Rows.callWith_type1 (bL (ha q2 pins s σ H _ I h) λus s1 U=>?_) he rfl;obtain⟨vs,x,j,P,p,ns,D,hq,hr,q⟩:=U;subst D;obtain⟨u,rfl,R⟩:=vals1 P;cases R;obtain⟨Y,S,O,f⟩:=j.list hq;refine SR.w_setOf hh O.isList (ns:=ns) (by simpa using fU S) (λks hn i=>by have :=zq 63 ks hn λz f=>hr z (i z f);unfold scanBound;omega) λh2 v ks hS g hm G=>?_;refine Calls.spliced_nil ?_;have K:ks.length<64:=by have :=zq 63 ks g λz f=>hr z ((hm z).mp f);omega
 refine SR.sj hh hS g K λh3 d T a vs w C ho n m c i J=>?_;have y:Inv X pins σ x {s1 with heap:=h2,toks:=v}:=j.kept (h':=h2) (t':=v) λb o l=>G b o (zQ07 l) l;have k:=DT y d;have W:vs.length=ks.length:=by rw[IntsAre.length m,c.length_eq]
 refine⟨.ref a,_,k.laid (t':=T) (h':=h3) J n (show bP X.prog X.w _ h3 a (.lst (w.map V.int))from⟨?_,vs,C,sX m,ho⟩),rfl,q a w (k.bV.fresh n) (EY i (c.nodup_iff.mpr g)) λz=>c.mem_iff.trans (hm z)⟩;rw[br,c.length_eq,sizeLine_eq];omega
end L3
end
section
namespace L3
open PySem PySem.Spec PyProof.Rows L2 KM
structure Sn(ps cs:List Str)(scope:Scope):Prop where
 kind:scope.kind= .function
 co:scope.isCoroutine=false
 gen:scope.isGenerator=false
 zm:∀x∈scope.names,x.2≠ .cell
 par:∀x∈ps,scope.names.lookup x=some .local
 nd:(ps++cs).Nodup
 free:∀x∈cs,scope.names.lookup x=some .free
 all:∀x,scope.names.lookup x=some .free->x∈cs
structure aaa(h:Heap)(f c:Addr)(name qual:Str)(params:Arguments)(body:List Stmt)(scope:Scope)(cs:List Str)(ws:List V)(cl:List (Str×Addr))(doc pm ct:Value):Prop where
 fo:h.get? f=some {cls:= .type "function",data:= .func (PySem.W.fnX name qual params body scope cl .none .none doc pm none (.ref c) ct)}
 inj:∀x y a,cl.lookup x=some a->cl.lookup y=some a->x=y
 own:∀x a,cl.lookup x=some a->x∈cs
 cell:∀(i:Nat)(x:Str),cs[i]?=some x->∃(v:V)(a:Addr)(u:Value),ws[i]?=some v/\cl.lookup x=some a/\RelV v u/\h.IsCell a (some u)
 len:ws.length=cs.length
section
variable{h h':Heap}{f c:Addr}{name qual:Str}{params:Arguments}{body:List Stmt}{scope:Scope}{cs:List Str}{ws:List V}{cl:List (Str×Addr)}{doc pm ct:Value}
end
section
variable{X:Cx}{pins:List (Addr×Obj)}{σ:L2.St}{H:Hp}{s:Shared}{f:Addr}{fo:Obj}
end
section
variable{X:Cx}{pins GQ:List (Addr×Obj)}{g:Addr->Hp->Prop}{σ:L2.St}{H:Hp}{s:Shared}
end
section
variable{X:Cx}
noncomputable def KI:V->List V->Hp->VK->Prop:=λx vs H Q=>∃(z y:Str),x= .str z/\vs=[.str y]/\z.length<=sizeLine/\Q (.str (Txt.rstripChars z y)) H
theorem CU:Rg X "str.rstrip" KI:=by intro pins s σ H x vs v us Q I d c h;obtain⟨z,y,rfl,rfl,a,q⟩:=h;obtain⟨u,rfl,b⟩:=c.one;obtain⟨t,rfl⟩:=(show∃t,v=Value.str z t from d);obtain⟨e,rfl⟩:=(show∃t,u=Value.str y t from b);exact call_gives F.slot_str_rstrip (typeIs_str _ _ _) F.entry_str_rstrip (F.args_str_rstrip_2 _ _) (gives_str_rstrip_chars z y t e) (post_val_or_made (λ_=>fits_stripped _ _ _ a) λt' k=>⟨.str _,H,I.tok _,⟨_,rfl⟩,q⟩)
noncomputable def Yy(b:TE):TE:=λσ H Q=>b σ H λx a=>∃z,x= .str z/\z.length+2<=sizeLine/\Q (.str ("("++z++")")) a
theorem Qc{e:Expr}{k:TE}{k1 i:Nat}{n o j p:Pos}(he:PE X e k):PE X (.JoinedStr [.Constant (.str "(") k1 n, .FormattedValue e (-1) none o, .Constant (.str ")") i j] p) (Yy k):=by
 intro pins s σ H Q I h;refine wpAny_JoinedStr ?_;refine wpAny_Constant_str ⟨_,_,rfl,by decide,?_⟩;refine wpAny_FormattedValue_plain (bL (he pins _ σ H _ (I.tok _) h) λv s1 u=>?_);obtain⟨x,f,g,r,z,m,w,q⟩:=u;subst m;obtain⟨t,rfl⟩:=(show∃t,v=Value.str z t from r);have c:∀a b:Str,(a++b).length=a.length+b.length:=λa b=>Array.size_append;have l1:("(":Str).length=1:=by decide
 have l2:(")":Str).length=1:=by decide
 have d:Str.empty++("(":Str)="(":=by decide
 have fin:∀(s2:Shared)(t:Tok),Inv X pins σ f s2->∃y t',Value.str z t= .str y t'/\(Str.empty++"("++y).length<=sizeLine/\Joins (model X.prog X.w) X.A X.xe (evalEach [.Constant (.str ")") i j] X.env) (Str.empty++"("++y) (λout s₁=>out.length<=sizeLine/\EP X pins σ Q (.str out s₁.toks) {s₁ with toks:=s₁.toks+1}) s2:=by intro s2 t l;refine⟨z,t,rfl,by rw[d,c,l1];omega,?_⟩;refine wpAny_Constant_str ⟨_,_,rfl,by rw[d,c,c,l1,l2];omega,?_⟩;rw[d];exact⟨by rw[c,c,l1,l2];omega, .str _,f,(l.tok _).tok _,⟨_,rfl⟩,q⟩
 exact wpAny_formatField_str (fin _ _ g) (fin _ _ (g.tok _)) (by omega)
end
end L3
end
section
namespace K56
open PySem L2 L3 KM PyProof.Rows
noncomputable def tx(l:List Nat):Str:=⟨l.toArray⟩
theorem str_len(z:Str):z.length=z.cps.toList.length:=by simp[Str.length]
theorem uH:∀(x y:List Nat),mz 32 (x++32::y)=mz 32 x++mz 32 y
 |[],y=>by rw[List.nil_append];show(if 32=32 then[]::mz 32 y else _)=_;rw[if_pos rfl];rfl
 |a::x,y=>by
  have b:=uH x y;rw[List.cons_append];by_cases h:a=32;·rw[mz,if_pos h,b,mz,if_pos h];rfl
  ·rw[mz,if_neg h,b,mz,if_neg h];obtain⟨w,ws,e⟩:=PF 32 x;rw[e];rfl
theorem HC(x y:List Nat):gu (x++32::y)=gu x++gu y:=by unfold gu;rw[List.flatMap_append,List.flatMap_cons,show sg 32=[32]from rfl,List.singleton_append,uH,List.filter_append]
theorem vA(c:Nat)(h:c=40\/c=41)(x y:List Nat):gu (x++c::y)=gu x++[c]::gu y:=by
 have e:sg c=[32,c,32]:=by rcases h with rfl|rfl<;>rfl
 have n:32∉[c]:=by rcases h with rfl|rfl<;>decide
 unfold gu;rw[List.flatMap_append,List.flatMap_cons,e,show[32,c,32]++y.flatMap sg=32::([c]++32::y.flatMap sg)from rfl,uH,jm n,List.filter_append,List.filter_cons];rfl
theorem wC{l:List Nat}(h:∀c∈l,brk c=false)(n:l≠[]):gu l=[l]:=by
 have b:∀c,brk c=false->c≠32/\c≠10/\c≠40/\c≠41:=λc h=>by unfold brk at h;simp at h;omega
 have e:l.flatMap sg=l:=by clear n;induction l with|nil=>rfl|cons a l d=>have :=b a (h a cT);rw[List.flatMap_cons,d λc hc=>h c (dB _ hc)];unfold sg;rw[if_neg this.2.2.1,if_neg this.2.2.2,if_neg this.2.1];rfl
 unfold gu;rw[e,kl λm=>(b 32 (h 32 m)).1 rfl];cases l with|nil=>exact absurd rfl n|cons a l=>rfl
theorem B2:gu []=[]:=rfl
noncomputable abbrev isNm(z:Str):Bool:=xT (.str z)
theorem kd{z:Str}(h:isNm z=true):z.cps.toList≠[]/\z.length<=12/\bI.lookup z=none/\∀c∈z.cps.toList,gQ c=true:=by unfold isNm xT at h;rw[bE,bE,bE]at h;refine⟨λe=>?_,by have :=of_decide_eq_true h.2.1;omega,by simpa using h.2.2.1,λc hc=>List.all_eq_true.mp h.2.2.2 c hc⟩;have :=of_decide_eq_true h.1;rw[str_len,e]at this;simp at this
theorem JL{c:Nat}(h:gQ c=true):97<=c/\c<=122:=by unfold gQ at h;rw[StrLaws.found_one,show Xb.cps.toList=[97,98,99,100,101,102,103,104,105,106,107,108,109,110,111,112,113,114,115,116,117,118,119,120,121,122]by decide+kernel]at h;simp at h;omega
theorem B1{c:Nat}(h:gQ c=true):brk c=false:=by have :=JL h;unfold brk;simp;omega
theorem G_{z:Str}(h:isNm z=true):gu z.cps.toList=[z.cps.toList]:=by obtain⟨n,_,_,hl⟩:=kd h;exact wC (λc hc=>B1 (hl c hc)) n
noncomputable def wS(l:List Nat):List Str:=(gu l).map tx
noncomputable def Ey:D:= .tup [.str "nat"]
theorem big{m:Nat}(h:m<=1000):m<=sizeLine:=cB h (by decide)
theorem fh(a b:Str):(a++b).cps.toList=a.cps.toList++b.cps.toList:=by show(a.cps++b.cps).toList=_;exact Array.toList_append
noncomputable def Wi:List Str:=["nat","none","all","some","same","var","fun","app","zero","next","rec","like","carry","never","pair","first","second","name"]
theorem DO(z:Str):bI.lookup z=none↔z∉Wi:=by
 have e:Wi=bI.map (·.1):=by decide+kernel
 rw[e];generalize bI=a;induction a with
  |nil=>simp
  |cons r a b=>
   rw[iO,cF,zQ34];by_cases h:z=r.1;·rw[show(z==r.1)=true by simpa using h];simp[h]
   ·rw[show(z==r.1)=false by simpa using h];simp only[h,false_or];exact b
theorem Vd{z:Str}(h1:z.cps.toList≠[])(h2:z.length<=12)(h3:∀c∈z.cps.toList,gQ c=true)(h4:z∉Wi):isNm z=true:=by
 have :1<=z.length:=by rw[str_len];cases e:z.cps.toList with|nil=>exact absurd e h1|cons a l=>simp
 show(decide ((1:Int)<=z.length)&&(decide ((z.length:Int)<=12)&&((bI.lookup z).isNone&&z.cps.toList.all gQ)))=true;rw[decide_eq_true (by omega),decide_eq_true (by omega),(DO z).mpr h4,Bool.true_and,Bool.true_and];exact List.all_eq_true.mpr h3
noncomputable def vS:V->Str| .str x=>x|_=>""
noncomputable def sQ(x:Str):List Str:=((bI.lookup x).getD []).map vS
noncomputable def UO:D->Bool| .tup (.str y::_)=>kG y|_=>false
noncomputable def g_:Nat->D|0=> .tup [.str "zero"]|n+1=> .tup [.str "next",g_ n]
theorem zo:∀n:Nat,dZ aY false (g_ n)=true|0=>KJ|n+1=>Jq (zo n)
theorem s_:∀n:Nat,depth (g_ n)=n+1|0=>by simp[g_,depth,bq]|n+1=>by have :=s_ n;simp only[g_,depth,bq];omega
theorem tS:∀n:Nat,aP (g_ n)=n+1|0=>by simp[g_,aP,bh]|n+1=>by have :=tS n;simp only[g_,aP,bh];omega
theorem Gz{x:Str}:∀(cs:List Nat)(ps:List D)(ds:List Str),ds=cs.map (λc=>if c=107 then Str.ofString "kind"else"term")->(∀c∈cs,c=107\/c=116)->ps.length=ds.length->(∀(i:Nat)(p:D),ps[i]?=some p->∃b:Str,ds[i]?=some b/\UO p=decide (b="kind")/\dZ aY (decide (b="kind")) p=true)->mw aY cs ps=true
 |[],[],_,_,_,_,_=>rfl
 |[],_::_,_,rfl,_,h,_=>by simp at h
 |_::_,[],_,rfl,_,h,_=>by simp at h
 |c::cs,p::ps,_,rfl,hc,h,f=>by
  obtain⟨b,a,_,d⟩:=f 0 p rfl;have g:=Gz (x:=x) cs ps _ rfl (λc h=>hc c (dB _ h)) (by simpa using h) λi q e=>f (i+1) q e;rw[bF,g,Bool.and_true];have a:(if c=107 then Str.ofString "kind"else"term")=b:=Option.some.inj a;unfold hW;rcases hc c cT with rfl|rfl;·rw[if_pos rfl]at a⊢;subst a;exact d
  ·rw[if_neg (by decide)]at a;rw[if_neg (by decide),if_pos rfl];subst a;exact d
noncomputable def g7:List Str:=["all","some","same","fun","app","next","rec","like","carry","never","pair","first","second"]
noncomputable def gB(x:Str):Bool:=decide (x∈(["all","some","same"]:List Str))
theorem vP:(g7.all λx=>decide (sQ x≠[])&&(decide (x.length<=12)&&(decide (1<=x.length)&&(decide (gu x.cps.toList=[x.cps.toList])&&((kG x==gB x)&&((PyData.str x).canLay0&&(match dv x with| .str s=>decide (sQ x=s.cps.toList.map (λc=>if c=107 then Str.ofString "kind"else"term"))&&s.cps.toList.all (λc=>decide (c=107\/c=116))|_=>false)))))))=true:=by decide+kernel
end K56
end
section
namespace K56
open PySem L2 L3 KM PyProof.Rows
seal L2.PE L2.PS L2.kq L2.PT L2.PW L2.PA L2.PG L2.zc L2.PI L2.PC L2.PO L2.Fg L2.PK L3.Cy
variable{P:Program}{w:World}{K:PySem.W.Frag}{mg:Str->Option Value}{base:Heap}{t:uw}
theorem x_:aT ["thing"] ["thing"] (aw dz):=⟨rfl,rfl,rfl,by decide+kernel,rfl,by decide+kernel,by decide+kernel⟩
theorem wY{n:Nat}(D:Df K mg "depth_of" dz ["thing"])(M:Mg mg t)(z:bB P w K mg bJ "kids_of" (1) ["thing"] gp)(u:bB P w K mg bJ "depth_of" (n+3) ["thing"] (z3 n)):bB P w K mg bJ "depth_of" (n+4) ["thing"] (z3 (n+1)):=by
 refine D.ok x_ (λvs H Q E h=>?_) (λbase f dh A outer s H vs Q E hr h=>?_);·obtain⟨d,v,rfl,_⟩:=h;rfl
 obtain⟨d,v,rfl,r,o,q⟩:=h;obtain⟨x,ps,k,rfl,wf,I⟩:=hV o.wf;have F:=xi wf;refine⟨_,(ai (az (aG cq ah (Im M.KR (aa (gf (N':=["kid"]) (own:=1) (fr:=[]) rfl (iV (N:=["thing"]) (sc:=aw dz) rfl rfl rfl (by decide+kernel)) (nE (aS z hr.m rfl aX (aa (pv 0) ag))) (eI (by decide)) (λ_ _ _=>(bu (i:=0) (show List.Nodup (["kid"]:List Str)by decide+kernel) rfl (Or.inl rfl))) (λ_ _ _=>ik) (λ_ _ _=>(aS u hr.m rfl aX (aa (pv 0) ag)))) ag) (Jp ah NV))))),?_⟩;try dsimp only[lB,X]
 refine⟨_,rfl,x,ps,v,rfl,r,I,λL us U _ s1 h1 m=>⟨L,rfl,⟨us,aZ.of h1⟩,λO G=>?_⟩⟩;have l1:=m.length;refine eF (ao x ps).length (λi=>V.int (depth (((ao x ps)[i]?).getD .bz):Nat)) G (cB F (by decide)) (λi a hi s2=>?_) λa s2 h2=>⟨⟨us,aZ.of (s2 _ _ h1),by omega⟩,?_⟩;·obtain⟨b,c⟩:∃b,(ao x ps)[i]?=some b:=⟨_,zQ03 hi⟩;obtain⟨p,j,S⟩:=m.get c;refine⟨⟨us,p,aZ.of (s2 _ _ h1),j⟩,?_⟩;rintro y W⟨rfl,J⟩R g;have l:=J us (aZ.of (s2 _ _ h1));rw[j]at l;cases l;rw[c]at g;exact⟨_,rfl,b,p,rfl,S.mono s2,o.kid c,λB T=>g B T⟩
 ·rw[(b0 wf).2]at q;refine⟨O,_,0,rfl,rfl,Jv h2,_,_,rfl,rfl,?_⟩;have :=q a (s1.trans s2);have C:maxD ((ao x ps).map λd=>((depth d:Nat):Int)) 0=((md ((ao x ps).map depth):Nat):Int):=by rw[<-FQ,List.map_map];rfl
  have e:(1:Int)+((md ((ao x ps).map depth):Nat):Int)=((1+md ((ao x ps).map depth):Nat):Int):=by omega
  show Q (V.int (1+maxD ((ao x ps).map λd=>((depth d:Nat):Int)) 0)) a;rw[C];rw[e];exact this
theorem rR(D:Df K mg "depth_of" dz ["thing"])(M:Mg mg t)(a:bB P w K mg bJ "kids_of" (1) ["thing"] gp):∀n:Nat,bB P w K mg bJ "depth_of" (n+3) ["thing"] (z3 n)|0=>bB.never D λvs H Q E⟨d,v,_,_,h,_⟩=>absurd h.dp (Nat.not_lt_zero _)|n+1=>wY D M a (rR D M a n)
seal L3.PH L3.PB
theorem LC{a:Type}(f:Nat->List a):∀(m j:Nat),j<=m->(((List.range j).map f).flatten).length<=(((List.range m).map f).flatten).length
 |0,j,h=>by rw[show j=0 by omega];exact zQ04 _
 |m+1,j,h=>by
  by_cases e:j=m+1;·rw[e];exact zQ04 _
  ·have :=LC f m j (by omega);rw[List.range_succ,cO,List.flatten_append,cE];omega
theorem mV{a:Type}(f:Nat->List a)(j:Nat):((List.range (j+1)).map f).flatten=((List.range j).map f).flatten++f j:=by rw[List.range_succ,cO,List.flatten_append];simp
noncomputable def bf:Nat->D->List Str|n+1, .tup (.str x::ps)=>if x="name"then(match ps with|[.str z]=>[z]|_=>[])else((List.range (ao x ps).length).map λi=>bf n (((ao x ps)[i]?).getD .bz)).flatten|_,_=>[]
def Jz(n:Nat):Sp:=λvs H Q _=>∃(d:D)(v:V),vs=[v]/\Rep H d v/\Wf d/\depth d<n/\(bf n d).length<=16000000/\∀(a:Addr)(H':Hp),H a=none->aN H H'->H' a=some (.lst ((bf n d).map V.str))->Q (.ref a) H'
theorem eJ{k:Bool}{ps:List D}(wf:dZ aY k (.tup (.str "name"::ps))=true):∃z:Str,ps=[.str z]:=by
 obtain⟨sh,d,_,b,_,c,_⟩:=bA wf;rw[iJ]at d;cases d;rw[LH]at b c;obtain⟨a,rfl⟩:∃a,ps=[a]:=by cases ps with|nil=>simp at c|cons a rest=>cases rest with|nil=>exact⟨a,rfl⟩|cons _ _=>simp at c
 rw[bF,bE]at b;have hn:aY a=true:=by simpa[hW]using b.1
 cases a<;>first|exact⟨_,rfl⟩|simp[aY]at hn
theorem gO:aT ["thing","found","kid"] ["thing"] (aw eZ):=⟨rfl,rfl,rfl,by decide+kernel,rfl,by decide+kernel,by decide+kernel⟩
theorem yk{n:Nat}(D:Df K mg "names_in" eZ ["thing"])(M:Mg mg t)(ba:bB P w K mg bJ "kids_of" (1) ["thing"] gp)(iQ:bB P w K mg bJ "names_in" (n+3) ["thing"] (Jz n)):bB P w K mg bJ "names_in" (n+4) ["thing"] (Jz (n+1)):=by
 refine D.ok gO (λvs H Q E h=>?_) (λbase f dh A outer s H vs Q E hr h=>?_);·obtain⟨d,v,rfl,_⟩:=h;rfl
 obtain⟨d,v,rfl,r,ig,hd,hl,q⟩:=h;refine⟨_,(af (aU (av bc (aH aM (pv 0) ah (λ_ _=>rfl)) ak (ay _)) (ai (az (bw (aa (aH aM (pv 0) ah (λ_ _=>rfl)) ag)))) aB) (af (aE (i:=1) gO.nd rfl (cI rfl) (bw ag)) (af (dC PassesOwn.never rfl (nE (aS ba hr.m rfl aX (aa (pv 0) ag))) (bu (i:=2) gO.nd rfl (cI rfl)) (ai (cA (fW PySem.F.plainAttrs_list PySem.F.slot_list_extend PySem.F.type_list_extend tT (pv 1) (aa (aS iQ hr.m rfl aX (aa (pv 2) ag)) ag))))) (ai (az (pv 1)))))),?_⟩;try dsimp only[lB,d5]
 refine rJ ?_;intro _ _ _ _;obtain⟨x,ps,k,rfl,wf,zM⟩:=hV ig;have Vb:=xi wf;obtain⟨a,Y,rfl,ha,v0,Y,rfl,⟨rfl,hx⟩,rp⟩:=id r;have ea:gP (V.str x::Y) 0=some (.str x):=aF (j:=0) rfl;refine⟨_,rfl,a,_,_,_,rfl,rfl,cN.of ha,ea,rfl,_,rfl,?_⟩;refine bD (λc=>?_) (λc=>?_)
 ·have c:V.str x=V.str "name":=of_decide_eq_true c;cases c;obtain⟨z,rfl⟩:=eJ wf;obtain⟨u1,Ih,rfl,⟨C,_⟩,_⟩:=rp;subst C;have e:bf (n+1) (.tup [.str "name", .str z])=[z]:=by rw[bf,if_pos rfl]
  rw[e]at q;exact⟨_,rfl,a,_,_, .str z,rfl,rfl,cN.of ha,aF (j:=1) rfl,(gH rfl),λp b=>q p _ b (aq b _) aj⟩
 have hv:x≠"name":=λz=>c (by rw[z];exact decide_eq_true rfl);have e:bf (n+1) (.tup (.str x::ps))=((List.range (ao x ps).length).map λi=>bf n (((ao x ps)[i]?).getD .bz)).flatten:=by
  conv=>lhs;unfold bf
  exact if_neg hv
 rw[e]at q hl;refine⟨(gH rfl),λg B=>?_⟩;refine⟨_,rfl,x,ps,_,rfl,r.mono (aq B _),zM,λW us I O s1 h1 C=>?_⟩;have sA:=(aq B (.lst [])).trans s1;have N:I g=some (.lst []):=s1 _ _ aj;have l1:=C.length;have U:W≠g:=λz=>by rw[z,aj]at O;cases O
 refine⟨W,rfl,⟨us,aZ.of h1⟩,?_⟩;refine d4 us.length (λj G H'=>∃kv,G=[some (.ref a),some (.ref g),kv]/\H' g=some (.lst ((((List.range j).map λi=>bf n (((ao x ps)[i]?).getD .bz)).flatten).map V.str))/\bp g I H') ⟨none,rfl,N,λ_ _ _ h=>h⟩ ?_ ?_
 ·rintro i G J hi⟨kv,rfl,b,l⟩;have S:i<(ao x ps).length:=by omega
  obtain⟨m,u⟩:∃m,(ao x ps)[i]?=some m:=⟨_,zQ03 S⟩;obtain⟨F,T,NL⟩:=C.get u;have L:=l _ _ U h1;refine⟨⟨us,F,aZ.of L,T⟩,?_⟩;rintro y H4⟨rfl,hy⟩;have Z:=hy us (aZ.of L);rw[T]at Z;cases Z;obtain⟨w1,w2⟩:=c6 wf u;have R:=LC (λi=>bf n (((ao x ps)[i]?).getD .bz)) (ao x ps).length (i+1) S;rw[mV,cE,u]at R;simp only[Option.getD_some]at R;have FJ:Rep H4 m F:=Rep.fH l (λvs=>by rw[N];exactλz=>nomatch z) NL;refine⟨_,rfl, .inl ⟨rfl,_,aZ.of b⟩,_,rfl,m,F,rfl,FJ,w1,by omega,by omega,λp5 H5 hn5 X h5=>?_⟩;refine⟨g,p5,_,_,rfl,rfl,X _ _ b,h5,?_,_,rfl,?_,?_⟩;·rw[br,br,show sizeLine=16777216 by decide];omega
  ·rw[mV,cO,u];exact aj
  ·exactλc o hc h=>by rw[bb hc];exact X _ _ (l c o hc h)
 ·rintro G J⟨kv,rfl,b,l⟩;rw[l1]at b;exact⟨⟨us,aZ.of (l _ _ U h1),by omega⟩,_,rfl,q g J B (λc o h=>l c o (aC h B) (sA c o h)) b⟩
theorem qe(D:Df K mg "names_in" eZ ["thing"])(M:Mg mg t)(a:bB P w K mg bJ "kids_of" (1) ["thing"] gp):∀n:Nat,bB P w K mg bJ "names_in" (n+3) ["thing"] (Jz n)|0=>bB.never D λvs H Q E⟨d,v,_,_,_,h,_⟩=>absurd h (Nat.not_lt_zero _)|n+1=>yk D M a (qe D M a n)
noncomputable def fL:Nat->D->Option Nat|n+1, .tup (.str x::ps)=>if x="next"then(match ps with|[p]=>(fL n p).map (·+1)|_=>none)else if x="zero"then some 0 else none|_,_=>none
def PN(n:Nat):Sp:=λvs H Q _=>∃(d:D)(v:V),vs=[v]/\Rep H d v/\Wf d/\depth d<n/\Q (match fL n d with|some m=> .int (m:Nat)|none=> .bz) H
theorem pZ{k:Bool}{ps:List D}(wf:dZ aY k (.tup (.str "next"::ps))=true):∃p:D,ps=[p]:=by
 obtain⟨sh,b,_,d,_,a,_⟩:=bA wf;have :dv "next"= .str "t":=by decide+kernel
 rw[this]at b;cases b;have :(Str.ofString "t").cps.toList.length=1:=by decide+kernel
 rw[this]at a;cases ps with|nil=>simp at a|cons c rest=>cases rest with|nil=>exact⟨c,rfl⟩|cons _ _=>simp at a
theorem cC:aT ["thing","count","here"] ["thing"] (aw dG):=⟨rfl,rfl,rfl,by decide+kernel,rfl,by decide+kernel,by decide+kernel⟩
theorem sP{n:Nat}(D:Df K mg "number_told" dG ["thing"])(M:Mg mg t):bB P w K mg bJ "number_told" (1) ["thing"] (PN n):=by
 refine D.ok cC (λvs H Q E h=>?_) (λbase f dh A outer s H vs Q E hr h=>?_);·obtain⟨d,v,rfl,_⟩:=h;rfl
 obtain⟨d,v,rfl,r,W,hd,q⟩:=h;refine⟨_,(af (aE (i:=1) cC.nd rfl (cI rfl) ah) (af (aE (i:=2) cC.nd rfl (cI rfl) (pv 0)) (af (qP PassesOwn.never (av bc (aH aM (pv 2) ah (λ_ _=>rfl)) ak (ay _)) (af (OA (i:=1) cC.nd rfl (cI rfl) ah PU) (ai (aE (i:=2) cC.nd rfl (cI rfl) (aH aM (pv 2) ah (λ_ _=>rfl)))))) (ai (az (rX (av bc (aH aM (pv 2) ah (λ_ _=>rfl)) ak (ay _)) (pv 1) Hl)))))),?_⟩;try dsimp only[lB,X]
 refine rJ ?_;intro _ _ _ _;refine⟨_,rfl,?_⟩;refine⟨λm I H'=>H'=H/\∃(d':KM.D)(u:V)(c l:Nat),I=[some v,some (.int (c:Nat)),some u]/\Rep H d' u/\Wf d'/\depth d'=m/\depth d'<l/\fL n d=(fL l d').map (·+c),⟨depth d,rfl,d,v,0,n,rfl,r,W,rfl,hd,by cases fL n d<;>rfl⟩,?_⟩;rintro m I H'⟨rfl,d',u,c,l,rfl,O,U,em,Y,C⟩;obtain⟨x,ps,k,rfl,wf,Z⟩:=hV U;obtain⟨a,G,rfl,ha,v0,G,rfl,⟨rfl,hx⟩,S⟩:=id O;have B:gP (V.str x::G) 0=some (.str x):=aF (j:=0) rfl;obtain⟨b,rfl⟩:∃b,l=b+1:=⟨l-1,by omega⟩;refine⟨_,rfl,a,_,_,_,rfl,rfl,cN.of ha,B,rfl,_,rfl,?_⟩;refine bD (λe=>?_) (λe=>?_)
 ·have e:V.str x=V.str "next":=of_decide_eq_true e;cases e;obtain⟨p,rfl⟩:=pZ wf;obtain⟨o,Ih,rfl,R,_⟩:=S;have L:ao "next" [p]=[p]:=by unfold ao;rw[if_neg (by decide+kernel)]
  obtain⟨T,w2⟩:=c6 wf (i:=0) (p:=p) (by rw[L];rfl);have g:fL (b+1) (.tup [.str "next",p])=(fL b p).map (·+1):=by rw[fL,if_pos rfl]
  refine⟨λJ y=>y=H'/\J=[some v,some (.int ((c+1:Nat):Int)),some o],?_,?_⟩;·rintro J y⟨rfl,rfl⟩;refine⟨depth p,by omega,rfl,p,o,c+1,b,rfl,R,T,rfl,by omega,?_⟩;rw[C,g,Option.map_map];congr 1;funext z;show z+1+c=z+(c+1);omega
  ·refine⟨_,rfl,_,_,rfl,rfl,?_⟩;refine⟨_,rfl,a,_,_,_,rfl,rfl,cN.of ha,aF (j:=1) rfl,rfl,?_⟩;show[some v,some (.int ((c:Int)+1)),some o]=_;rw[show(c:Int)+1=((c+1:Nat):Int)by omega]
 have F:x≠"next":=λz=>e (by rw[z];exact decide_eq_true rfl);rw[C]at q;refine⟨_,rfl,a,_,_,_,rfl,rfl,cN.of ha,B,rfl,_,rfl,?_⟩;refine bD (λe=>?_) (λe=>?_)
 ·have e:V.str x=V.str "zero":=of_decide_eq_true e;cases e;have g:fL (b+1) (.tup (.str "zero"::ps))=some 0:=by
   conv=>lhs;unfold fL
   rw[if_neg F,if_pos rfl]
  rw[g]at q;refine⟨_,rfl,?_⟩;simp only[Option.map_some,Nat.zero_add]at q;exact q
 ·have N:x≠"zero":=λz=>e (by rw[z];exact decide_eq_true rfl);have g:fL (b+1) (.tup (.str x::ps))=none:=by
   conv=>lhs;unfold fL
   rw[if_neg F,if_neg N]
  rw[g]at q;exact q
noncomputable def HS(i:Nat):List Nat:=if i<26 then[97+i]else[97+(i-26)/26,97+(i-26)%26]
noncomputable def eA(i:Nat):Str:=⟨(HS i).toArray⟩
noncomputable def xh:Str:="abcdefghijklmnopqrstuvwxyz"
noncomputable def U8(i:Nat):Bool:=let st:=Txt.rstripChars (eA i) "z";let a:=Txt.mul "a" (((eA i).length:Int)-(st.length:Int));decide (st.length<=2)&&(decide (0<=((eA i).length:Int)-(st.length:Int))&&(decide (a.length<=2)&&(if st=""then decide ("a"++a=eA (i+1))else match gP st.cps.toList (-1)with|none=>false|some c=>match Builtin.Str.occurrences xh ⟨#[c]⟩ 0 xh.length 1 with|[]=>false|j::_=>match gP xh.cps.toList ((j:Int)+1)with|none=>false|some b=>decide ((yW st none (some (-1))).length<=2)&&decide ((⟨(yW st none (some (-1))).toArray⟩:Str)++⟨#[b]⟩++a=eA (i+1)))))
theorem OQ:((List.range 701).all U8)=true:=by decide+kernel
def Vk:Sp:=λvs H Q _=>∃i:Nat,vs=[.str (eA i)]/\i<701/\Q (.str (eA (i+1))) H
theorem oA(i:Nat):(eA i).length<=2:=by show(HS i).toArray.size<=2;rw[cw];unfold HS;split<;>simp
theorem Qn{n:Int}(a:0<=n)(h1:n<=2):MulOk "a" n:=by
 rcases(show n=0\/n=1\/n=2 by omega)with rfl|rfl|rfl;·exact⟨by decide,λz=>absurd (by decide) z,λz=>absurd (by decide) z⟩
 ·exact⟨by decide,λ_ z=>absurd z (by decide),λ_ z=>absurd z (by decide)⟩
 ·exact⟨by decide,λ_ _=>by decide,λ_ _=>by decide⟩
theorem fK:aT ["name","stem","rest"] ["name"] (aw d_):=⟨rfl,rfl,rfl,by decide+kernel,rfl,by decide+kernel,by decide+kernel⟩
theorem uQ(D:Df K mg "name_after" d_ ["name"])(M:Mg mg t):bB P w K mg bJ "name_after" (1) ["name"] Vk:=by
 refine D.ok fK (λvs H Q E h=>?_) (λbase f dh A outer s H vs Q E hr h=>?_);·obtain⟨i,rfl,_⟩:=h;rfl
 obtain⟨i,rfl,hi,q⟩:=h;have hc:=List.all_eq_true.mp OQ i (List.mem_range.mpr hi);unfold U8 at hc;refine⟨_,(af (aE (i:=1) fK.nd rfl (cI rfl) (fW PySem.F.plainAttrs_str PySem.F.slot_str_rstrip PySem.F.type_str_rstrip CU (pv 0) (aa ak ag))) (af (aE (i:=2) fK.nd rfl (cI rfl) (aG JX ak (aG iR (aL eE rfl M.dy cz (aa (pv 0) ag)) (aL eE rfl M.dy cz (aa (pv 1) ag))))) (af (aU (av bc (pv 1) ak (ay _)) (ai (az (aG c_ ak (pv 2)))) aB) (ai (az (aG c_ (aG c_ (Jo (pv 1) ix (du (iC fJ ah)) ix) (aH ug (u_ M.g_LETTERS rfl) (aG cq (fW PySem.F.plainAttrs_str PySem.F.slot_str_index PySem.F.type_str_index G5 (u_ M.g_LETTERS rfl) (aa (aH ug (pv 1) (iC fJ ah) (λ_ _=>rfl)) ag)) ah) (λ_ _=>rfl))) (pv 2))))))),?_⟩;try dsimp only[lB,u]
 refine rJ ?_;intro _ _ _ _;have hl:=oA i;refine⟨_,rfl,rfl,_,_,rfl,rfl,big (by omega),?_⟩;generalize Txt.rstripChars (eA i) "z"=st at hc⊢;dsimp only at hc;simp only[bE,decide_eq_true_eq]at hc;obtain⟨v,n,o,hc⟩:=hc;refine⟨_,rfl,_,rfl,big (by omega),_,rfl,_,rfl,big (by omega),_,_,rfl,rfl,?_⟩;refine⟨_,_,rfl,rfl,Qn n (by show((eA i).length:Int)-(st.length:Int)<=2;omega),?_⟩;show sZ 2 (V.str (Txt.mul "a" (((eA i).length:Int)-(st.length:Int)))) _ _ _;generalize Txt.mul "a" (((eA i).length:Int)-(st.length:Int))=C at hc o⊢;refine⟨_,rfl,rfl,_,rfl,bD (λc=>?_) (λc=>?_)⟩
 ·have c:V.str st=V.str "":=of_decide_eq_true c;cases c;rw[if_pos rfl]at hc;have hc:=of_decide_eq_true hc;refine⟨_,rfl,_,_,rfl,rfl,?_,?_⟩
  ·exact big (by
    have :(Str.ofString "a").length=1:=by decide
    omega)
  ·have q:=q;rw[<-hc]at q;exact q
 have hne:st≠"":=λz=>c (by rw[z];exact decide_eq_true rfl);rw[if_neg hne]at hc;cases d:gP st.cps.toList (-1)with
  |none=>rw[d]at hc;cases hc
  |some ch=>
   rw[d]at hc;dsimp only at hc;cases e:Builtin.Str.occurrences xh ⟨#[ch]⟩ 0 xh.length 1 with
    |nil=>rw[e]at hc;cases hc
    |cons j r=>
     rw[e]at hc;dsimp only at hc;cases g:gP xh.cps.toList ((j:Int)+1)with
      |none=>rw[g]at hc;cases hc
      |some k=>
       rw[g]at hc;simp only[bE,decide_eq_true_eq]at hc;obtain⟨hcl,hc⟩:=hc;have B:(Str.ofString "abcdefghijklmnopqrstuvwxyz").length=26:=by decide+kernel
       have m:∀a b:Str,(a++b).length=a.length+b.length:=λa b=>Array.size_append;have l1:∀c:Nat,(⟨#[c]⟩:Str).length=1:=λ_=>rfl;refine⟨_,rfl,1,rfl,-1,rfl,st,rfl,big (by omega),rfl,λy p=>?_⟩;have l:y=⟨(yW st none (some (-1))).toArray⟩:=by obtain⟨c⟩:=y;congr 1;exact Array.toList_inj.mp (by rw[List.toList_toArray];exact p)
       have x:y.length<=2:=by rw[l];show(yW st none (some (-1))).toArray.size<=2;rw[cw];exact hcl
       refine⟨rfl,_,rfl,1,rfl,st,-1,ch,rfl,rfl,big (by omega),d,xh,⟨#[ch]⟩,j,r,rfl,rfl,e,_,_,rfl,rfl,xh,(j:Int)+1,k,rfl,rfl,big (by show(Str.ofString "abcdefghijklmnopqrstuvwxyz").length<=1000;omega),g,y,⟨#[k]⟩,rfl,rfl,big (by rw[l1];omega),_,rfl,_,_,rfl,rfl,big (by rw[m,l1];omega),?_⟩;rw[l,hc];exact q
theorem Tu:((List.range 26).all λi=>gQ (97+i))=true:=by decide+kernel
theorem Xw:(Wi.all λz=>decide (3<=z.length))=true:=by decide+kernel
theorem KL{i:Nat}(h:i<702):isNm (eA i)=true:=by
 have b:∀c,c∈(eA i).cps.toList->gQ c=true:=by
  intro c hc;have hc:c∈HS i:=by simpa[eA]using hc
  have a:∀j,j<26->gQ (97+j)=true:=λj hj=>List.all_eq_true.mp Tu j (List.mem_range.mpr hj);unfold HS at hc;split at hc;·rw[List.mem_singleton]at hc;rw[hc];exact a _ (by omega)
  ·simp only[zQ34,zQ16,or_false]at hc;rcases hc with rfl|rfl;·exact a _ (by omega)
   ·exact a _ (by omega)
 have hl:=oA i;refine Vd ?_ (by omega) b λd=>?_;·show(HS i).toArray.toList≠[];rw[List.toList_toArray];unfold HS;split<;>simp
 ·have :=of_decide_eq_true (List.all_eq_true.mp Xw _ d);omega
theorem Qd{i j:Nat}(h:eA i=eA j):i=j:=by
 have :HS i=HS j:=by have :=congrArg (λs:Str=>s.cps.toList) h;simpa[eA]using this
 unfold HS at this;split at this<;>split at this<;>simp at this<;>omega
theorem nX:∀{l T:List Str},l.Nodup->(∀z,z∈l->z∈T)->l.length<=T.length|[],_,_,_=>zQ27 _|x::l,T,hn,a=>by obtain⟨h1,h2⟩:=List.nodup_cons.mp hn;have b:=a x cT;have :=nX (l:=l) (T:=T.erase x) h2 λz c=>(List.mem_erase_of_ne (λe=>h1 (by rw[<-e];exact c))).mpr (a z (dB _ c));rw[List.length_erase_of_mem b]at this;have :=List.length_pos_of_mem b;rw[cU];omega
noncomputable def fc(T:List Str)(i:Nat):List Str:=((List.range i).map eA).filter λz=>decide (z∉T)
theorem jF(T:List Str)(i:Nat):fc T (i+1)=fc T i++if eA i∉T then[eA i]else[]:=by unfold fc;rw[List.range_succ,cO,List.filter_append];congr 1;by_cases h:eA i∈T<;>simp[h]
theorem Hv(i:Nat):((List.range i).map eA).Nodup:=by refine List.Pairwise.map _ (λa b h=>?_) List.pairwise_lt_range;exactλe=>by have :=Qd e;omega
theorem HL(T:List Str)(i:Nat):(fc T i).Nodup:=(Hv i).filter _
theorem nY(T:List Str)(i:Nat):i<=(fc T i).length+T.length:=by
 have h1:(((List.range i).map eA).filter λz=>decide (z∈T)).length<=T.length:=nX ((Hv i).filter _) λz b=>of_decide_eq_true (List.mem_filter.mp b).2;have h2:i=(fc T i).length+(((List.range i).map eA).filter λz=>decide (z∈T)).length:=by
  unfold fc;have :∀l:List Str,l.length=(l.filter λz=>decide (z∉T)).length+(l.filter λz=>decide (z∈T)).length:=λl=>by
   induction l with
    |nil=>rfl
    |cons a l c=>
     rw[List.filter_cons,List.filter_cons,cU];by_cases h:a∈T;·rw[if_neg (by simp[h]),if_pos (by simp[h]),cU];omega
     ·rw[if_pos (by simp[h]),if_neg (by simp[h]),cU];omega
  have :=this ((List.range i).map eA);rwa[br,List.length_range]at this
 omega
theorem Jr(T:List Str):∀{i j:Nat},i<=j->∃l,fc T j=fc T i++l:=λ{i j}h=>by
 induction j with
  |zero=>exact⟨[],by rw[show i=0 by omega];simp⟩
  |succ j a=>
   by_cases e:i=j+1;·exact⟨[],by rw[e];simp⟩
   ·obtain⟨l,hl⟩:=a (by omega);exact⟨l++(if eA j∉T then[eA j]else[]),by rw[jF,hl,fk]⟩
noncomputable def bZ(kvs:List (Key×V)):List Str:=kvs.filterMap λp=>match p.1 with| .inr z=>some z| .inl _=>none
theorem Au(z:Str):∀kvs:List (Key×V),(dY kvs (.inr z)).isSome=decide (z∈bZ kvs)
 |[]=>rfl
 |(k,v)::r=>by
  have b:=Au z r;cases k with
   |inl i=>
    have a:dY ((Sum.inl i,v)::r) (.inr z)=dY r (.inr z):=by simp[dY,List.find?_cons]
    rw[a,b];rfl
   |inr y=>
    have c:bZ ((Sum.inr y,v)::r)=y::bZ r:=rfl;rw[c];by_cases h:y=z;·subst h;rw[iZ rfl];simp
    ·have a:dY ((Sum.inr y,v)::r) (.inr z)=dY r (.inr z):=by simp[dY,List.find?_cons,h]
     rw[a,b];have h':¬z=y:=λe=>h e.symm;simp[h']
def RH:Sp:=λvs H Q _=>∃(c:Nat)(tk:Addr)(kvs:List (Key×V)),vs=[.int (c:Nat), .ref tk]/\H tk=some (.dK kvs)/\c+kvs.length<=700/\∀(a:Addr)(H':Hp),H a=none->aN H H'->H' a=some (.lst (((fc (bZ kvs) 702).take c).map V.str))->Q (.ref a) H'
theorem dM:aT ["count","taken","left","name"] ["count","taken"] (aw eC):=⟨rfl,rfl,rfl,by decide+kernel,rfl,by decide+kernel,by decide+kernel⟩
theorem vH(D:Df K mg "names_left" eC ["count","taken"])(M:Mg mg t)(I:bB P w K mg bJ "is_name" (1) ["value"] xc)(J:bB P w K mg bJ "name_after" (1) ["name"] Vk):bB P w K mg bJ "names_left" (2) ["count","taken"] RH:=by
 refine D.ok dM (λvs H Q E h=>?_) (λbase f dh A outer s H vs Q E hr h=>?_);·obtain⟨c,tk,kvs,rfl,_⟩:=h;rfl
 obtain⟨c,tk,kvs,rfl,y,hb,q⟩:=h;have T:=ql hr;refine⟨_,(af (aE (i:=2) dM.nd rfl (cI rfl) (bw ag)) (af (aE (i:=3) dM.nd rfl (cI rfl) ak) (af (qP PassesOwn.never (av Ax (aL aV rfl M.dy cz (aa (pv 2) ag)) (pv 0) (ay _)) (af (aU (L2.PW.pt (qU (iK (aS I hr.m rfl aX (aa (pv 3) ag))) (ju (Pc (Dr T (pv 3) (pv 1)))))) (ai (cA (fW PySem.F.plainAttrs_list PySem.F.slot_list_append PySem.F.type_list_append cJ (pv 2) (aa (pv 3) ag)))) aB) (ai (aE (i:=3) dM.nd rfl (cI rfl) (aS J hr.m rfl aX (aa (pv 3) ag)))))) (ai (az (pv 2)))))),?_⟩;try dsimp only[lB,W]
 refine rJ ?_;intro _ _ _ _;refine⟨(gH rfl),λa g=>?_⟩;have v:=aq g (.lst []);have hl1:(upd H a (.lst [])) a=some (.lst []):=aj;have B:=v _ _ y;have U:tk≠a:=aC y g;generalize upd H a (.lst [])=n at v hl1 B⊢;refine⟨λm F H'=>∃i:Nat,m=702-i/\i<=701/\F=[some (.int (c:Nat)),some (.ref tk),some (.ref a),some (.str (eA i))]/\H' a=some (.lst ((fc (bZ kvs) i).map V.str))/\(fc (bZ kvs) i).length<=c/\bp a n H',⟨702,0,rfl,by omega,rfl,hl1,zQ27 _,λ_ _ _ h=>h⟩,?_⟩;rintro m F H'⟨i,rfl,hi,rfl,p,hlc,u⟩;refine⟨_,rfl,a,_,rfl, .inl (aZ.of p),_,rfl,_,_,rfl,rfl,_,rfl,?_⟩;have R:((fc (bZ kvs) i).map V.str).length=(fc (bZ kvs) i).length:=br _;refine bD (λe=>?_) (λe=>?_)
 ·have e:(((fc (bZ kvs) i).map V.str).length:Int)<(c:Int):=of_decide_eq_true e;have Y:(bZ kvs).length<=kvs.length:=List.length_filterMap_le _ _;have Z:=nY (bZ kvs) i;have x:i<701:=by omega
  have S:=KL (show i<702 by omega);refine⟨λG j=>G=[some (.int (c:Nat)),some (.ref tk),some (.ref a),some (.str (eA (i+1)))]/\j a=some (.lst ((fc (bZ kvs) (i+1)).map V.str))/\bp a n j,?_,?_⟩;·rintro G j⟨rfl,h1,h2⟩;refine⟨702-(i+1),by omega,i+1,rfl,by omega,rfl,h1,?_,h2⟩;rw[jF,cE];split<;>simp<;>omega
  have N:=u _ _ U B;refine⟨_,rfl, .str (eA i),_,rfl,⟨rfl,by have :=oA i;omega⟩,λL s2=>?_⟩;refine⟨true,congrArg V.bl S,b9 ?_⟩;have O:=s2 _ _ N;have r:=s2 _ _ p;refine⟨_,rfl,_,rfl,tk,_,rfl,EZ.k (k:= .inr (eA i)) O,!decide (eA i∈bZ kvs),congrArg (λb=>V.bl (!b)) (Au _ _),?_⟩;have C:bp a n L:=u.trans s2.x;refine bD (λd=>?_) (λd=>?_)
  ·have d:eA i∉bZ kvs:=by simpa using d
   refine⟨_,rfl, .inl ⟨rfl,_,aZ.of r⟩,_,rfl,a,_,_,rfl,rfl,r,?_,?_⟩;·rw[R,show sizeLine=16777216 by decide];omega
   refine⟨_,rfl,i,rfl,x,rfl,?_,?_⟩;·rw[jF,if_pos d,cO];exact aj
   ·exactλb o hb h=>by rw[bb hb];exact C b o hb h
  ·have d:eA i∈bZ kvs:=by simpa using d
   refine⟨_,rfl,i,rfl,x,rfl,?_,C⟩;rw[jF,if_neg (λz=>z d),gg];exact r
 ·have e:¬(((fc (bZ kvs) i).map V.str).length:Int)<(c:Int):=of_decide_eq_false (Bool.eq_false_iff.mpr e);have X:(fc (bZ kvs) i).length=c:=by omega
  obtain⟨l,hl⟩:=Jr (bZ kvs) (show i<=702 by omega);rw[hl,List.take_append_of_le_length (by omega),rj (by omega)]at q;exact⟨_,rfl,q a H' g (λb o h=>u b o (aC h g) (v b o h)) p⟩
noncomputable def se(x:Str)(i:Nat):Int:=if decide (V.int i=jY x)=true then 1 else 0
noncomputable def bC:Nat->Int->D->List Int|n+1,b, .tup (.str x::ps)=>if x="var"then(match ps with|[.int i]=>if b<=i then[i-b]else[]|_=>[])else((List.range (ao x ps).length).map λi=>bC n (b+se x i) (((ao x ps)[i]?).getD .bz)).flatten|_,_,_=>[]
theorem Hm(x:Str)(i:Nat):0<=se x i:=by unfold se;split<;>decide
theorem uE(x:Str)(i:Nat):iH x i= .int (se x i):=by unfold iH se;split<;>rfl
theorem BL(f:Nat->List Int):∀(m j:Nat),j<=m->(((List.range j).map f).flatten).length<=(((List.range m).map f).flatten).length
 |0,j,h=>by rw[show j=0 by omega];exact zQ04 _
 |m+1,j,h=>by
  by_cases e:j=m+1;·rw[e];exact zQ04 _
  ·have :=BL f m j (by omega);rw[List.range_succ,cO,List.flatten_append,cE];omega
theorem tX(f:Nat->List Int)(j:Nat):((List.range (j+1)).map f).flatten=((List.range j).map f).flatten++f j:=by rw[List.range_succ,cO,List.flatten_append];simp
def JH(n:Nat):Sp:=λvs H Q _=>∃(d:D)(v:V)(b:Int),vs=[v, .int b]/\Rep H d v/\Wf d/\depth d<n/\0<=b/\(bC n b d).length<=16000000/\∀(a:Addr)(H':Hp),H a=none->aN H H'->H' a=some (.lst ((bC n b d).map V.int))->Q (.ref a) H'
theorem cZ:aT ["thing","binders","numbers","kid","bound"] ["thing","binders"] (aw cD):=⟨rfl,rfl,rfl,by decide+kernel,rfl,by decide+kernel,by decide+kernel⟩
theorem l7{n:Nat}(D:Df K mg "numbers_free" cD ["thing","binders"])(M:Mg mg t)(ba:bB P w K mg bJ "kids_of" (1) ["thing"] gp)(cu:bB P w K mg bJ "binds_of" (1) ["thing"] ja)(fb:bB P w K mg bJ "numbers_free" (n+3) ["thing","binders"] (JH n)):bB P w K mg bJ "numbers_free" (n+4) ["thing","binders"] (JH (n+1)):=by
 refine D.ok cZ (λvs H Q E h=>?_) (λbase f dh A outer s H vs Q E hr h=>?_);·obtain⟨d,v,b,rfl,_⟩:=h;rfl
 obtain⟨d,v,b,rfl,r,ig,hd,hb,hl,q⟩:=h;refine⟨_,(af (aU (av bc (aH aM (pv 0) ah (λ_ _=>rfl)) ak (ay _)) (ai (az (rX (av xr (aH aM (pv 0) ah (λ_ _=>rfl)) (pv 1) (ay _)) (bw (aa (aG iR (aH aM (pv 0) ah (λ_ _=>rfl)) (pv 1)) ag)) (bw ag)))) aB) (af (aE (i:=2) cZ.nd rfl (cI rfl) (bw ag)) (af (dC PassesOwn.never rfl (z_ rfl M.K7 (aa (aS ba hr.m rfl aX (aa (pv 0) ag)) (aa (aS cu hr.m rfl aX (aa (pv 0) ag)) ag))) (FU (n:=2) rfl (jH (bu (i:=3) cZ.nd rfl (cI rfl)) (jH (bu (i:=4) cZ.nd rfl (cI rfl)) A5))) (ai (cA (fW PySem.F.plainAttrs_list PySem.F.slot_list_extend PySem.F.type_list_extend tT (pv 2) (aa (aS fb hr.m rfl aX (aa (pv 3) (aa (aG cq (pv 1) (pv 4)) ag))) ag))))) (ai (az (pv 2)))))),?_⟩;try dsimp only[lB,d5]
 refine rJ ?_;intro _ _ _ _;obtain⟨x,ps,k,rfl,wf,zM⟩:=hV ig;have Vb:=xi wf;obtain⟨a,wq,rfl,ha,v0,wq,rfl,⟨rfl,hx⟩,rp⟩:=id r;have ea:gP (V.str x::wq) 0=some (.str x):=aF (j:=0) rfl;refine⟨_,rfl,a,_,_,_,rfl,rfl,cN.of ha,ea,rfl,_,rfl,?_⟩;refine bD (λc=>?_) (λc=>?_)
 ·have c:V.str x=V.str "var":=of_decide_eq_true c;cases c;obtain⟨sh,e1,_,R,_,S,_⟩:=bA wf;rw[de]at e1;cases e1;rw[qu]at R S;obtain⟨g,rfl⟩:∃g,ps=[g]:=by cases ps with|nil=>simp at S|cons g rest=>cases rest with|nil=>exact⟨g,rfl⟩|cons _ _=>simp at S
  rw[bF,bE]at R;have hn:eQ g=true:=by simpa[hW]using R.1
  obtain⟨i,rfl⟩:∃i,g= .int i:=by cases g<;>first|exact⟨_,rfl⟩|simp[eQ]at hn
  obtain⟨u1,Ih,rfl,J,_⟩:=rp;cases(show u1=V.int i from J);have e:bC (n+1) b (.tup [.str "var", .int i])=if b<=i then[i-b]else[]:=by rw[bC,if_pos rfl]
  rw[e]at q;refine⟨_,rfl,a,_,_, .int i,rfl,rfl,cN.of ha,aF (j:=1) rfl,_,rfl,_,_,rfl,rfl,_,rfl,?_⟩;refine bD (λc=>?_) (λc=>?_);·have c:b<=i:=of_decide_eq_true c;rw[if_pos c]at q;exact⟨_,rfl,a,_,_, .int i,rfl,rfl,cN.of ha,aF (j:=1) rfl,_,rfl,_,_,rfl,rfl,(gH rfl),λp m=>q p _ m (aq m _) aj⟩
  ·have c:¬b<=i:=of_decide_eq_false (Bool.eq_false_iff.mpr c);rw[if_neg c]at q;exact⟨(gH rfl),λp m=>q p _ m (aq m _) aj⟩
 have hv:x≠"var":=λz=>c (by rw[z];exact decide_eq_true rfl);have e:bC (n+1) b (.tup (.str x::ps))=((List.range (ao x ps).length).map λi=>bC n (b+se x i) (((ao x ps)[i]?).getD .bz)).flatten:=by
  conv=>lhs;unfold bC
  exact if_neg hv
 rw[e]at q hl;refine⟨(gH rfl),λg B=>?_⟩;refine⟨_,rfl,x,ps,_,rfl,r.mono (aq B _),zM,λp1 us H1 Il s1 h1 J=>⟨_,rfl,x,ps,_,k,rfl,(r.mono (aq B _)).mono s1,wf,λI H2 s2 h2=>?_⟩⟩;have sA:=(aq B (.lst [])).trans (s1.trans s2);have T:H2 g=some (.lst []):=s2 _ _ (s1 _ _ aj);have U:=s2 _ _ h1;have l1:=J.length;have SS:p1≠g:=λz=>by rw[z,aj]at Il;cases Il
 have XM:=J.mono s2;refine⟨p1,I,us,_,rfl,aZ.of U,aZ.of h2,d4 us.length (λj Z H'=>∃kv O,Z=[some (.ref a),some (.int b),some (.ref g),kv,O]/\H' g=some (.lst ((((List.range j).map λi=>bC n (b+se x i) (((ao x ps)[i]?).getD .bz)).flatten).map V.int))/\bp g H2 H') ⟨none,none,rfl,T,λ_ _ _ h=>h⟩ ?_ ?_⟩
 ·rintro i Z C hi⟨kv,O,rfl,m,u⟩;have X:i<(ao x ps).length:=by omega
  have n20:I≠g:=λz=>by rw[z,T]at h2;have :=congrArg (λo=>match o with|some (HO.lst l)=>l.length|_=>0) h2;simp[iT]at this;omega
  obtain⟨F,G⟩:∃F,(ao x ps)[i]?=some F:=⟨_,zQ03 X⟩;obtain⟨N,GO,NL⟩:=XM.get G;have hbi:(iT x (ao x ps).length)[i]?=some (.int (se x i)):=by unfold iT;rw[fi,List.getElem?_range X];show some (iH x i)=_;rw[uE]
  have g1:=u _ _ SS U;have g2:=u _ _ n20 h2;refine⟨⟨us,_,N,_,aZ.of g1,aZ.of g2,GO,hbi⟩,?_⟩;rintro y H4⟨p,x',y',rfl,Yh,rfl,hy⟩;obtain⟨y1,y2⟩:=hy us _ (aZ.of g1) (aZ.of g2);rw[GO]at y1;rw[hbi]at y2;cases y1;cases y2;have L:=aq Yh (.tup [N, .int (se x i)]);obtain⟨w1,w2⟩:=c6 wf G;have W:=BL (λi=>bC n (b+se x i) (((ao x ps)[i]?).getD .bz)) (ao x ps).length (i+1) X;rw[tX,cE,G]at W;have FJ:Rep C F N:=Rep.fH u (λvs=>by rw[T];exactλz=>nomatch z) NL;refine⟨p,_,rfl,cN.of aj,rfl,_,_,rfl,_,_,rfl,rfl,?_⟩;refine⟨_,rfl, .inl ⟨rfl,_,aZ.of (L _ _ m)⟩,_,rfl,_,rfl,_,rfl,_,_,rfl,rfl,F,N,b+se x i,rfl,FJ.mono L,w1,by omega,by have :=Hm x i;omega,by simp only[Option.getD_some]at W;omega,λp5 H5 hn5 s5 h5=>?_⟩;have e0:=s5 _ _ (L _ _ m);refine⟨g,p5,_,_,rfl,rfl,e0,h5,?_,_,_,rfl,?_,?_⟩;·rw[br,br,show sizeLine=16777216 by decide];simp only[Option.getD_some]at W;omega
  ·rw[tX,cO,G];exact aj
  ·exactλc o hc h=>by rw[bb hc];exact s5 _ _ (L _ _ (u c o hc h))
 ·rintro Z C⟨kv,O,rfl,m,u⟩;have st:∃Y,aZ K C I Y:=by
   by_cases z:I=g;·exact⟨_,by rw[z];exact aZ.of m⟩
   ·exact⟨_,aZ.of (u _ _ z h2)⟩
  obtain⟨Y,hys⟩:=st;rw[l1]at m;exact⟨⟨us,Y,aZ.of (u _ _ SS U),hys,rfl⟩,_,rfl,q g C B (λc o h=>u c o (aC h B) (sA c o h)) m⟩
theorem gZ(D:Df K mg "numbers_free" cD ["thing","binders"])(M:Mg mg t)(c:bB P w K mg bJ "kids_of" (1) ["thing"] gp)(a:bB P w K mg bJ "binds_of" (1) ["thing"] ja):∀n:Nat,bB P w K mg bJ "numbers_free" (n+3) ["thing","binders"] (JH n)|0=>bB.never D λvs H Q E⟨d,v,b,_,_,_,h,_⟩=>absurd h (Nat.not_lt_zero _)|n+1=>l7 D M c a (gZ D M c a n)
def Se(n:Nat):Sp:=λvs H Q _=>∃(d:D)(v:V),vs=[v]/\Rep H d v/\Wf d/\depth d<n/\(bC n 0 d).length<=16000000/\(∀z,z∈bC n 0 d->0<=z/\z<63)/\∀(a:Addr)(b:List Int)(H':Hp),H a=none->aN H H'->b.Pairwise (·<·)->(∀z,z∈b↔z∈bC n 0 d)->H' a=some (.lst (b.map V.int))->Q (.ref a) H'
theorem yR:aT ["thing"] ["thing"] (aw iq):=⟨rfl,rfl,rfl,by decide+kernel,rfl,by decide+kernel,by decide+kernel⟩
theorem DA(D:Df K mg "free_in" iq ["thing"])(M:Mg mg t)(b:bB P w K mg bJ "numbers_free" (63) ["thing","binders"] (JH 60)):bB P w K mg bJ "free_in" (140) ["thing"] (Se 60):=by
 refine D.ok yR (λvs H Q E h=>?_) (λbase f dh A outer s H vs Q E hr h=>?_);·obtain⟨d,v,rfl,_⟩:=h;rfl
 obtain⟨d,v,rfl,r,j,hd,hl,e,q⟩:=h;have hh:=hr.hd (by decide);refine⟨_,(ai (az (uY hh rfl M.FY rfl M.Ub Dj Pz (aa (aS b hr.m rfl aX (aa (pv 0) (aa ah ag))) ag)))),?_⟩;try dsimp only[lB,n]
 exact⟨_,rfl,d,v,0,rfl,r,j,hd,by decide,hl,λi m o s1 h1=>⟨i,bC 60 0 d,rfl,aZ.of h1,e,λl k a g c=>q l k _ (s1.free a) (s1.trans (aq a _)) g c aj⟩⟩
noncomputable def fg(x:Str)(i:Nat):Nat:=if decide (V.int i=jY x)=true then 1 else 0
theorem xq(x:Str)(i:Nat):se x i=((fg x i:Nat):Int):=by unfold se fg;split<;>rfl
noncomputable def iA(m:Nat):Str:=Str.ofString (toString ((m:Nat):Int))
noncomputable def ft:Nat->List Str->List Str->D->Str
 |n+1,A,L, .tup (.str x::ps)=>if x="var"then(match ps with|[.int i]=>(A[i.toNat]?).getD ""|_=>"")else if x="name"then(match ps with|[.str z]=>z|_=>"")else match fL (n+1) (.tup (.str x::ps))with|some m=>iA m|none=>if ao x ps=[]then x else"("++Txt.join " " (x::((if f_ x BO then L.take 1 else[])++(List.range (ao x ps).length).map λi=>ft n (L.take (fg x i)++A) (L.drop (fg x i)) (((ao x ps)[i]?).getD .bz)))++")"
 |_,_,_,_=>""
noncomputable def iz:Nat->Nat->D->Prop|n+1,m, .tup (.str x::ps)=>if x="var"then(match ps with|[.int i]=>i<m|_=>True)else∀i p,(ao x ps)[i]?=some p->iz n (m+fg x i) p|_,_,_=>True
structure Nl(A:List Str):Prop where
 HW:A.length<=400
 sh:∀z,z∈A->z.length<=1000
def J4(n:Nat):Sp:=λvs H Q _=>∃(d:D)(v:V)(a b:Addr)(A L:List Str),vs=[v, .ref a, .ref b]/\Rep H d v/\Wf d/\depth d<n/\H a=some (.lst (A.map V.str))/\H b=some (.lst (L.map V.str))/\(∀z,z∈A++L->z.length<=1000)/\A.length+L.length<=400/\depth d<=L.length/\iz n A.length d/\aP d<=10000/\(∀z,z∈bf n d->z.length<=1000)/\∀H',aN H H'->Q (.str (ft n A L d)) H'
theorem yf:∀(n:Nat)(d:D)(m:Nat),Wf d->fL n d=some m->m+1<=depth d
 |0,d,m,_,h=>by unfold fL at h;cases h
 |n+1,d,m,⟨k,wf⟩,h=>by
  obtain⟨x,ps,rfl⟩:=gm wf;by_cases a:x="next"
  ·subst a;obtain⟨p,rfl⟩:=pZ wf;rw[fL,if_pos rfl]at h;cases e:fL n p with
    |none=>rw[e]at h;cases h
    |some f=>
     rw[e]at h;have c:ao "next" [p]=[p]:=by unfold ao;rw[if_neg (by decide+kernel)]
     obtain⟨g,j⟩:=c6 wf (i:=0) (p:=p) (by rw[c];rfl);have :=yf n p f g e;simp at h;omega
  ·have b:fL (n+1) (.tup (.str x::ps))=if x="zero"then some 0 else none:=by
    conv=>lhs;unfold fL
    exact if_neg a
   rw[b]at h;have :1<=depth (.tup (.str x::ps)):=by simp only[depth];omega
   split at h;·cases h;omega
   ·cases h
theorem Ll{m:Nat}(h:m<1000):(((m:Nat):Int)).natAbs.log2<1920:=by
 rw[Int.natAbs_natCast];by_cases a:m=0;·rw[a];decide
 ·have :=(Nat.log2_lt a).mpr (show m<2^1920 from eB h (by decide));exact this
noncomputable def pe:List Str->Str|[]=>""|z::a=>" "++z++pe a
theorem xR:∀(a:List Str)(A:Array Nat),a.foldl (λc p=>c++(Str.ofString " ").cps++p.cps) A=A++(pe a).cps
 |[],A=>by
  have e:(pe []).cps=#[]:=by decide+kernel
  rw[e];simp
 |z::b,A=>by rw[List.foldl_cons,xR b];show _=A++((Str.ofString " ").cps++z.cps++(pe b).cps);simp
theorem gU(y:Str)(a:List Str):Txt.join " " (y::a)=y++pe a:=by show(⟨((y::a).drop 1).foldl (λb p=>b++(Str.ofString " ").cps++p.cps) ((y::a).headD Str.empty).cps⟩:Str)=⟨y.cps++(pe a).cps⟩;rw[List.drop_succ_cons,List.drop_zero,xR];rfl
theorem ur:∀a:List Str,(pe a).length=(a.map (·.length)).sum+a.length|[]=>rfl|z::b=>by rw[pe,Str.length_append,Str.length_append,ur b,cF,List.sum_cons,cU,show(Str.ofString " ").length=1 from rfl];omega
noncomputable def kN(n:Nat)(A L:List Str)(x:Str)(ks:List D)(j:Nat):List Str:=(List.range j).map λi=>ft n (L.take (fg x i)++A) (L.drop (fg x i)) ((ks[i]?).getD .bz)
theorem tF{f g:Nat->Nat}:∀m:Nat,(∀i,i<m->f i<=g i)->((List.range m).map f).sum<=((List.range m).map g).sum|0,_=>zQ04 _|m+1,h=>by rw[List.range_succ,cO,cO,List.sum_append,List.sum_append];have :=tF m λi hi=>h i (by omega);have :=h m (by omega);simp;omega
theorem Oo(f:D->Nat)(ks:List D):(List.range ks.length).map (λi=>f ((ks[i]?).getD .bz))=ks.map f:=by
 apply List.ext_getElem?;intro i;rw[fi,fi];by_cases h:i<ks.length;·rw[List.getElem?_range h,zQ03 h];simp[h]
 ·rw[List.getElem?_eq_none (by simpa using h),List.getElem?_eq_none (by simpa using h)];rfl
theorem Cc(c:Nat):∀l:List Nat,(l.map (c*·)).sum=c*l.sum|[]=>rfl|a::l=>by rw[cF,List.sum_cons,List.sum_cons,Cc c l,Nat.mul_add]
theorem BR{k:Bool}{x:Str}{ps:List D}(wf:dZ aY k (.tup (.str x::ps))=true):x.length<=8:=by
 obtain⟨sh,_,_,_,_,_,_,_,r,h,_⟩:=bA wf;have all:∀y∈bI.map Prod.fst,y.length<=8:=by decide+kernel
 refine all x ?_;have :∀(l:List (Str×_)),l.lookup x=some r->x∈l.map Prod.fst:=by
  intro l;induction l with
   |nil=>intro h;cases h
   |cons a l b=>
    intro h;rw[iO]at h;split at h;·rename_i e;rw[cF];exact List.mem_cons.mpr (.inl (by simpa using e))
    ·exact dB _ (b h)
 exact this _ h
theorem Kc(m:Nat):(iA m).length<=m+1:=by have h:=(Jy (n:=m) (k:=m+1) (by omega) (eB (Nat.lt_pow_self (by decide:1<10)) (Nat.pow_le_pow_right (by decide) (by omega)))).2;rw[Array.length_toList]at h;exact h
theorem AF:∀l:List D,(∀d,d∈l->depth d<=aP d)->md (l.map depth)<=(l.map aP).sum|[],_=>zQ04 _|a::l,h=>by have h1:=AF l λd hd=>h d (dB _ hd);have h2:=h a cT;rw[cF,cF,List.sum_cons];show max (depth a) (md (l.map depth))<=_;omega
theorem E4:∀(n:Nat)(d:D),depth d<n->Wf d->depth d<=aP d
 |0,d,h,_=>absurd h (Nat.not_lt_zero _)
 |n+1,d,h,⟨k,wf⟩=>by
  obtain⟨x,ps,rfl⟩:=gm wf;obtain⟨a,b⟩:=b0 wf;rw[a,b];have :=AF (ao x ps) λd hd=>by obtain⟨i,hi⟩:=List.getElem?_of_mem hd;obtain⟨c,e⟩:=c6 wf hi;exact E4 n d (by omega) c
  omega
theorem jq{n:Nat}{x:Str}{ps:List D}{i:Nat}{p:D}{z:Str}(a:x≠"name")(e:(ao x ps)[i]?=some p)(h:z∈bf n p):z∈bf (n+1) (.tup (.str x::ps)):=by unfold bf;rw[if_neg a];have hi:i<(ao x ps).length:=(List.getElem?_eq_some_iff.mp e).1;exact List.mem_flatten.mpr ⟨_,List.mem_map.mpr ⟨i,List.mem_range.mpr hi,rfl⟩,by rw[e,Option.getD_some];exact h⟩
theorem vn{P:Str->Prop}{A L:List Str}(h:∀z,z∈A++L->P z)(b:Nat):∀z,z∈L.take b++A++L.drop b->P z:=λz a=>h z (by
 rw[List.mem_append,List.mem_append]at a;rw[List.mem_append];rcases a with(a|a)|a;·exact .inr (List.mem_of_mem_take a)
 ·exact .inl a
 ·exact .inr (List.mem_of_mem_drop a))
theorem tm{n B C:Nat}{A L:List Str}{x:Str}{ks:List D}(c:x.length<=8)(b:∀z,z∈A++L->z.length<=B)(h:∀i,i<ks.length->(ft n (L.take (fg x i)++A) (L.drop (fg x i)) ((ks[i]?).getD .bz)).length<=C*aP ((ks[i]?).getD .bz))(a:ks.length<=4):((x::((if f_ x BO then L.take 1 else[])++kN n A L x ks ks.length)).map (·.length)).sum+(x::((if f_ x BO then L.take 1 else[])++kN n A L x ks ks.length)).length<=B+20+C*(ks.map aP).sum/\(x::((if f_ x BO then L.take 1 else[])++kN n A L x ks ks.length)).length<=6:=by
 have h1:((kN n A L x ks ks.length).map (·.length)).sum<=C*(ks.map aP).sum:=by rw[<-Cc,List.map_map,<-Oo,kN,List.map_map];exact tF _ h
 have h2:(kN n A L x ks ks.length).length<=4:=by rw[kN,br,List.length_range];exact a
 have h3:((if f_ x BO then L.take 1 else[]).map (·.length)).sum<=B/\(if f_ x BO then L.take 1 else[]).length<=1:=by
  split;·cases L with|nil=>simp|cons z L=>have :=b z (by simp);simpa using this
  ·simp
 generalize C*(ks.map aP).sum=T at h1⊢;rw[cF,cO,List.sum_cons,List.sum_append,cU,cE];omega
theorem vq(B:Nat):∀(n:Nat)(A L:List Str)(d:D),Wf d->depth d<n->(∀z,z∈A++L->z.length<=B)->(∀z,z∈bf n d->z.length<=B)->(ft n A L d).length<=(B+50)*aP d
 |0,A,L,d,_,h,_,_=>absurd h (Nat.not_lt_zero _)
 |n+1,A,L,d,⟨k,wf⟩,hd,c,hm=>by
  obtain⟨x,ps,rfl⟩:=gm wf;obtain⟨g,y⟩:=b0 wf;have p:=xi wf;have h3:=E4 (n+1) _ hd ⟨k,wf⟩;have f:(Str.ofString "").length=0:=rfl;have r:=BR wf;rw[g]at h3⊢;have hS:=Nat.le_mul_of_pos_left (((ao x ps).map aP).sum) (show 0<B+50 by omega);rw[Nat.mul_add,Nat.mul_one];unfold ft;split
  ·split
   ·rename_i i;have :((A[i.toNat]?).getD "").length<=B:=by cases e:A[i.toNat]? with|none=>rw[Option.getD_none,f];omega|some z=>exact c z (List.mem_append.mpr (.inl (rW e)))
    omega
   ·rw[f];omega
  split
  ·rename_i l;split;·rename_i z;have :=hm z (by unfold bf;rw[if_pos l];exact List.mem_singleton.mpr rfl);omega
   ·rw[f];omega
  rename_i j;split;·rename_i m hm;have h1:=Kc m;have h2:=yf (n+1) _ m ⟨k,wf⟩ hm;omega
  split;·omega
  ·have q:=(tm (n:=n) (A:=A) (L:=L) (x:=x) (ks:=ao x ps) r c (λi hi=>by obtain⟨a,b⟩:∃a,(ao x ps)[i]?=some a:=⟨_,zQ03 hi⟩;obtain⟨v,C⟩:=c6 wf b;rw[b,Option.getD_some];exact vq B n _ _ a v (by omega) (vn c _) λz o=>hm z (jq j b o)) p).1;show("("++Txt.join " " (x::((if f_ x BO then L.take 1 else[])++kN n A L x (ao x ps) (ao x ps).length))++")").length<=_;rw[gU,Str.length_append,Str.length_append,Str.length_append,ur];rw[cF,List.sum_cons,cU]at q;have s:(Str.ofString "(").length=1:=rfl;have u:(Str.ofString ")").length=1:=rfl;rw[s,u];omega
theorem AN{n:Nat}{A L:List Str}{x:Str}{ks:List D}{i:Nat}{d:D}(h:ks[i]?=some d):kN n A L x ks (i+1)=kN n A L x ks i++[ft n (L.take (fg x i)++A) (L.drop (fg x i)) d]:=by rw[kN,List.range_succ,cO,kN,cF,h];rfl
theorem wb{n m:Nat}{x:Str}{ps:List D}{i:Nat}{d:D}(a:x≠"var")(h:iz (n+1) m (.tup (.str x::ps)))(e:(ao x ps)[i]?=some d):iz n (m+fg x i) d:=by unfold iz at h;rw[if_neg a]at h;exact h i d e
theorem uA(x:Str)(i:Nat):fg x i<=1:=by unfold fg;split<;>decide
theorem BF(f:D->Nat){d:D}:∀{l:List D},d∈l->f d<=(l.map f).sum
 |a::l,h=>by
  rw[cF,List.sum_cons];rcases List.mem_cons.mp h with rfl|h;·omega
  ·have :=BF f h;omega
theorem Oq{m:Nat}(h:m<=1000):m<sizeLine:=Nat.lt_of_le_of_lt h (by decide)
theorem Px{k:Bool}{x:Str}{ps:List D}{i:Nat}{d:D}(wf:dZ aY k (.tup (.str x::ps))=true)(e:(ao x ps)[i]?=some d):aP d<aP (.tup (.str x::ps)):=by have h:=(b0 wf).1;have :aP d<=((ao x ps).map aP).sum:=BF aP (rW e);omega
theorem c0:aT ["thing","around","left","number","kids","parts","kid","bound","inner"] ["thing","around","left"] (aw fZ):=⟨rfl,rfl,rfl,by decide+kernel,rfl,by decide+kernel,by decide+kernel⟩
theorem yI{n:Nat}(D:Df K mg "text_of" fZ ["thing","around","left"])(M:Mg mg t)(ba:bB P w K mg bJ "kids_of" (1) ["thing"] gp)(cu:bB P w K mg bJ "binds_of" (1) ["thing"] ja)(B:iB K t.dR BO)(dH:bB P w K mg bJ "number_told" (1) ["thing"] (PN (n+1)))(j7:bB P w K mg bJ "text_of" (n+3) ["thing","around","left"] (J4 n)):bB P w K mg bJ "text_of" (n+4) ["thing","around","left"] (J4 (n+1)):=by
 refine D.ok c0 (λvs H Q E h=>?_) (λbase f dh A outer s H vs Q E hr h=>?_);·obtain⟨d,v,R,I,A,L,rfl,_⟩:=h;rfl
 obtain⟨d,v,R,I,A,L,rfl,r,ig,hd,YT,Y8,Io,YR,hdl,hcl,Xd,Ww,q⟩:=h;have hu:=ql hr;refine⟨_,(af (aU (av bc (aH aM (pv 0) ah (λ_ _=>rfl)) ak (ay _)) (ai (az (aH bH (pv 1) (aH aM (pv 0) ah (λ_ _=>rfl)) (λ_ _=>rfl)))) aB) (af (aU (av bc (aH aM (pv 0) ah (λ_ _=>rfl)) ak (ay _)) (ai (az (aH aM (pv 0) ah (λ_ _=>rfl)))) aB) (af (aE (i:=3) c0.nd rfl (cI rfl) (aS dH hr.m rfl aX (aa (pv 0) ag))) (af (aU (av IA (pv 3) Hl (ay _)) (ai (az (cf tN rfl M.Bf uy (aa (pv 3) ag)))) aB) (af (aE (i:=4) c0.nd rfl (cI rfl) (aS ba hr.m rfl aX (aa (pv 0) ag))) (af (aU (av bc (aL aV rfl M.dy cz (aa (pv 4) ag)) ah (ay _)) (ai (az (aH aM (pv 0) ah (λ_ _=>rfl)))) aB) (af (aE (i:=5) c0.nd rfl (cI rfl) (bw (aa (aH aM (pv 0) ah (λ_ _=>rfl)) ag))) (af (aU (av Dh (aH aM (pv 0) ah (λ_ _=>rfl)) (bG M.g_BINDER_OVER rfl) rfl) (ai (cA (fW PySem.F.plainAttrs_list PySem.F.slot_list_append PySem.F.type_list_append cJ (pv 5) (aa (aH bH (pv 2) ah (λ_ _=>rfl)) ag)))) aB) (af (dC PassesOwn.never rfl (z_ rfl M.K7 (aa (pv 4) (aa (aS cu hr.m rfl aX (aa (pv 0) ag)) ag))) (FU (n:=2) rfl (jH (bu (i:=6) c0.nd rfl (cI rfl)) (jH (bu (i:=7) c0.nd rfl (cI rfl)) A5))) (ai (cA (fW PySem.F.plainAttrs_list PySem.F.slot_list_append PySem.F.type_list_append cJ (pv 5) (aa (aS j7 hr.m rfl aX (aa (pv 6) (aa (aG rH (eR ip (pv 2) ix (du (pv 7))) (pv 1)) (aa (eR ip (pv 2) (du (pv 7)) ix) ag)))) ag))))) (af (aE (i:=8) c0.nd rfl (cI rfl) (fW PySem.F.plainAttrs_str PySem.F.slot_str_join PySem.F.type_str_join BC ak (aa (pv 5) ag))) (ai (az (Qc (pv 8)))))))))))))),?_⟩;try dsimp only[lB,d5]
 refine SD ?_;intro _ _ _ _ _ _ _ _ _ _ _;rename_i D0 v11 v10 v9 v8 v7 v6 v5 v4 v3 v2;obtain⟨x,ps,k,rfl,wf,zM⟩:=hV ig;have Vb:=xi wf;obtain⟨a,wq,rfl,ha,v0,wq,rfl,⟨rfl,hx⟩,rp⟩:=id r;have S:gP (V.str x::wq) 0=some (.str x):=aF (j:=0) rfl;refine⟨_,rfl,a,_,_,_,rfl,rfl,cN.of ha,S,rfl,_,rfl,?_⟩;refine bD (λc=>?_) (λc=>?_)
 ·have c:V.str x=V.str "var":=of_decide_eq_true c;cases c;obtain⟨sh,e1,_,e3,_,e5,_⟩:=bA wf;rw[de]at e1;cases e1;rw[qu]at e3 e5;obtain⟨G,rfl⟩:∃G,ps=[G]:=by cases ps with|nil=>simp at e5|cons G rest=>cases rest with|nil=>exact⟨G,rfl⟩|cons _ _=>simp at e5
  rw[bF,bE]at e3;have hn:eQ G=true:=by simpa[hW]using e3.1
  obtain⟨i,rfl⟩:∃i,G= .int i:=by cases G<;>first|exact⟨_,rfl⟩|simp[eQ]at hn
  obtain⟨u1,Ih,rfl,J,_⟩:=rp;cases(show u1=V.int i from J);have h0:0<=i:=by simp[eQ]at hn;omega
  have hi:i<A.length:=by rw[iz,if_pos rfl]at hcl;exact hcl
  have e:ft (n+1) A L (.tup [.str "var", .int i])=(A[i.toNat]?).getD "":=by rw[ft,if_pos rfl]
  rw[e]at q;obtain⟨z,F⟩:∃z,A[i.toNat]?=some z:=⟨_,zQ03 (by omega)⟩;rw[F]at q;refine⟨_,rfl,_,rfl,a,_,_, .int i,rfl,rfl,cN.of ha,aF (j:=1) rfl,R,_,i, .str z,rfl,rfl,aZ.of YT,?_,q H (aN.refl H)⟩;rw[show i=((i.toNat:Nat):Int)by omega];exact aF (by rw[fi,F];rfl)
 have hv:x≠"var":=λz=>c (by rw[z];exact decide_eq_true rfl);refine⟨_,rfl,a,_,_,_,rfl,rfl,cN.of ha,S,rfl,_,rfl,?_⟩;refine bD (λc=>?_) (λc=>?_)
 ·have c:V.str x=V.str "name":=of_decide_eq_true c;cases c;obtain⟨z,rfl⟩:=eJ wf;obtain⟨u1,Ih,rfl,⟨J,_⟩,_⟩:=rp;subst J;have e:ft (n+1) A L (.tup [.str "name", .str z])=z:=by rw[ft,if_neg hv,if_pos rfl]
  rw[e]at q;exact⟨_,rfl,a,_,_, .str z,rfl,rfl,cN.of ha,aF (j:=1) rfl,q H (aN.refl H)⟩
 have w4:x≠"name":=λz=>c (by rw[z];exact decide_eq_true rfl);have e:ft (n+1) A L (.tup (.str x::ps))=match fL (n+1) (.tup (.str x::ps))with|some m=>iA m|none=>if ao x ps=[]then x else"("++Txt.join " " (x::((if f_ x BO then L.take 1 else[])++(List.range (ao x ps).length).map λi=>ft n (L.take (fg x i)++A) (L.drop (fg x i)) (((ao x ps)[i]?).getD .bz)))++")":=by
  conv=>lhs;unfold ft
  rw[if_neg hv,if_neg w4]
 rw[e]at q;refine⟨_,rfl,_,_,rfl,r,ig,hd,?_⟩;cases wx:fL (n+1) (.tup (.str x::ps))with
  |some m=>rw[wx]at q;have hm:=yf _ _ _ ig wx;exact⟨_,rfl,rfl,_,rfl,b9 ⟨_,rfl,(m:Int),rfl,Ll (by omega),q H (aN.refl H)⟩⟩
  |none=>
   rw[wx]at q;refine⟨_,rfl,rfl,_,rfl,cS ?_⟩;refine⟨_,rfl,x,ps,_,rfl,r,zM,λT us H1 Il s1 h1 J=>?_⟩;have l1:=J.length;refine⟨_,rfl,T,us,rfl, .inl (aZ.of h1),rfl,_,rfl,?_⟩;refine bD (λc=>?_) (λc=>?_)
   ·have F:us=[]:=by have c:V.int ((us.length:Nat):Int)=V.int 0:=of_decide_eq_true c;injection c with c;exact List.length_eq_zero_iff.mp (by omega)
    have hk:ao x ps=[]:=List.length_eq_zero_iff.mp (by rw[<-l1,F];rfl);rw[if_pos hk]at q;exact⟨_,rfl,a,_,_,_,rfl,rfl,cN.of (s1 _ _ ha),S,q H1 s1⟩
   have hne:us≠[]:=λz=>c (by rw[z];rfl);have hk:ao x ps≠[]:=λz=>hne (List.length_eq_zero_iff.mp (by rw[l1,z];rfl));rw[if_neg hk]at q;refine⟨_,rfl,a,_,_,_,rfl,rfl,cN.of (s1 _ _ ha),S,(gH rfl),λb j5=>?_⟩;have s2:=aq j5 (.lst [V.str x]);have h2:(upd H1 b (.lst [V.str x])) b=some (.lst ([x].map V.str)):=aj;have DV:H b=none:=s1.free j5;have XA:T≠b:=aC h1 j5;generalize upd H1 b (.lst [V.str x])=H2 at s2 h2⊢;have QV:=s1.trans s2;have rest:∀O:Hp,bp b H2 O->O b=some (.lst ((x::(if f_ x BO then L.take 1 else[])).map V.str))->v9 D0 [some (.ref a),some (.ref R),some (.ref I),some .bz,some (.ref T),some (.ref b),none,none,none] O:=by
    intro O sx uP;have Z:=sx _ _ XA (s2 _ _ h1);have m2:∀(c:Addr)(o:HO),H c=some o->O c=some o:=λc o h=>sx c o (aC h DV) (QV c o h);refine⟨_,rfl,_,rfl,x,ps,_,k,rfl,r.mono m2,wf,λp4 H4 N h4=>?_⟩;have Ig:=N _ _ uP;have HU:=N _ _ Z;have XM:cv H4 (ao x ps) us:=cv.mono N (cv.fH sx (λvs=>by rw[h2];exactλz=>nomatch z) (J.mono s2));have n42:p4≠b:=λz=>by rw[z,Ig]at h4;cases e:(ao x ps).length with|zero=>exact hk (List.length_eq_zero_iff.mp e)|succ l=>rw[e]at h4;have :=congrArg (λo=>match o with|some (HO.lst (V.str _::_))=>1|_=>0) h4;simp[iT,List.range_succ_eq_map,uE]at this
    refine⟨T,p4,us,_,rfl,aZ.of HU,aZ.of h4,d4 us.length (λj bg H'=>∃kv bv,bg=[some (.ref a),some (.ref R),some (.ref I),some .bz,some (.ref T),some (.ref b),kv,bv,none]/\H' b=some (.lst ((x::((if f_ x BO then L.take 1 else[])++kN n A L x (ao x ps) j)).map V.str))/\bp b H4 H') ⟨none,none,rfl,by rw[Ig];simp[kN],λ_ _ _ h=>h⟩ ?_ ?_⟩
    ·rintro i bg X hi⟨kv,bv,rfl,hp,u⟩;have Iy:i<(ao x ps).length:=by omega
     obtain⟨C,g⟩:∃C,(ao x ps)[i]?=some C:=⟨_,zQ03 Iy⟩;obtain⟨W,GO,NL⟩:=XM.get g;have hbi:(iT x (ao x ps).length)[i]?=some (.int (fg x i)):=by unfold iT;rw[fi,List.getElem?_range Iy];show some (iH x i)=_;rw[uE,xq]
     have Z:=u _ _ XA HU;have g4:=u _ _ n42 h4;refine⟨⟨us,_,W,_,aZ.of Z,aZ.of g4,GO,hbi⟩,?_⟩;rintro y H6⟨p,x',y',rfl,Yh,rfl,hy⟩;obtain⟨y1,y2⟩:=hy us _ (aZ.of Z) (aZ.of g4);rw[GO]at y1;rw[hbi]at y2;cases y1;cases y2;have U:=aq Yh (.tup [W, .int (fg x i)]);obtain⟨w1,w2⟩:=c6 wf g;have FJ:Rep X C W:=Rep.fH u (λvs=>by rw[Ig];exactλz=>nomatch z) NL;refine⟨p,_,rfl,cN.of aj,rfl,_,_,rfl,_,_,rfl,rfl,?_⟩;have CT:=uA x i;have Ik:=U _ _ hp;have Up:=U _ _ (u _ _ (aC Y8 DV) (N _ _ (m2 _ _ Y8)));have Xz:=U _ _ (u _ _ (aC YT DV) (N _ _ (m2 _ _ YT)));refine⟨_,rfl, .inl ⟨rfl,_,aZ.of Ik⟩,_,rfl,_,rfl,_,rfl,_,rfl,I,_,rfl,aZ.of Up,λp7 U5=>?_⟩;rw[A3,<-List.map_take];have s7:=aq U5 (.lst ((L.take (fg x i)).map V.str));refine⟨_,rfl,p7,R,_,_,rfl,rfl,aj,s7 _ _ Xz,(by rw[br,br,iP];exact big (by omega)),λp8 Q6=>?_⟩;rw[<-cO];have s8:=s7.trans (aq Q6 (.lst ((L.take (fg x i)++A).map V.str)));have h8:(upd (upd (upd X p (.tup [W, .int (fg x i)])) p7 (.lst ((L.take (fg x i)).map V.str))) p8 (.lst ((L.take (fg x i)++A).map V.str))) p8=some (.lst ((L.take (fg x i)++A).map V.str)):=aj;refine⟨_,rfl,_,rfl,_,rfl,I,_,rfl,aZ.of (s8 _ _ Up),λp9 hp9=>?_⟩;rw[tR,<-List.map_drop];have s9:=aq hp9 (.lst ((L.drop (fg x i)).map V.str));refine⟨C,W,p8,p9,_,_,rfl,(FJ.mono U).mono (s8.trans s9),w1,by omega,s9 _ _ h8,aj,vn Io _,?_,?_,?_,?_,λz F=>Ww z (jq w4 g F),λH' OB=>?_⟩;·rw[cE,iP,ko];omega
     ·rw[ko];omega
     ·have :=wb hv hcl g;rw[cE,iP,Nat.min_eq_left (by omega),Nat.add_comm];exact this
     ·have :=Px wf g;omega
     refine⟨b,_,_,rfl,rfl,OB _ _ (s9 _ _ (s8 _ _ Ik)),?_,_,_,rfl,?_,?_⟩
     ·rw[br,cU,cE,kN,br,List.length_range];have :(if f_ x BO=true then L.take 1 else[]).length<=1:=by
       split;·rw[iP];omega
       ·exact zQ27 _
      exact Oq (by omega)
     ·rw[aj,AN g];simp only[cF,cO,fk,List.cons_append,List.map_nil]
     ·exactλc o hc h=>by rw[bb hc];exact OB _ _ (s9 _ _ (s8 _ _ (U _ _ (u c o hc h))))
    ·rintro bg X⟨kv,bv,rfl,hp,u⟩;have key:=tm (n:=n) (A:=A) (L:=L) (x:=x) (ks:=ao x ps) (BR wf) Io (λi hi=>by obtain⟨C,g⟩:∃C,(ao x ps)[i]?=some C:=⟨_,zQ03 hi⟩;obtain⟨w1,w2⟩:=c6 wf g;rw[g,Option.getD_some];exact vq 1000 n _ _ C w1 (by omega) (vn Io _) λz F=>Ww z (jq w4 g F)) Vb;have kk:=(b0 wf).1;rw[l1]at hp;refine⟨⟨us,_,aZ.of (u _ _ XA HU),aZ.of (u _ _ n42 h4),rfl⟩,?_⟩;refine⟨rfl,_,rfl," ",b,_,rfl,rfl,aZ.of hp,?_,_,rfl,_,rfl,?_,q X ?_⟩;·rw[show(Str.ofString " ").length=1 from rfl];omega
     ·rw[gU,Str.length_append,ur];rw[cF,List.sum_cons,cU]at key;exact cB (m:=16777216) (by omega) (by decide)
     ·exactλc o h=>u c o (aC h DV) (N _ _ (m2 c o h))
   refine⟨_,rfl,a,_,_,_,rfl,rfl,cN.of (QV _ _ ha),S,x,_,_,rfl,rfl,B,_,rfl,?_⟩;refine bD (λc=>?_) (λc=>?_)
   ·have c:f_ x BO=true:=c;obtain⟨z,Y,rfl⟩:∃z Y,L=z::Y:=by cases L with|nil=>have :=(b0 wf).2;simp at hdl;omega|cons z Y=>exact⟨z,Y,rfl⟩
    refine⟨_,rfl, .inl ⟨rfl,_,aZ.of h2⟩,_,rfl,I,_,_, .str z,rfl,rfl,aZ.of (QV _ _ Y8),aF (j:=0) rfl,b,_,_,rfl,rfl,h2,(by show 1<sizeLine;decide),?_⟩;refine rest _ (bp.upd _) ?_;rw[if_pos c];exact aj
   ·have c:¬f_ x BO=true:=c;refine rest _ (λ_ _ _ h=>h) ?_;rw[if_neg c];exact h2
theorem tq(D:Df K mg "text_of" fZ ["thing","around","left"])(M:Mg mg t)(b:bB P w K mg bJ "kids_of" (1) ["thing"] gp)(a:bB P w K mg bJ "binds_of" (1) ["thing"] ja)(B:iB K t.dR BO)(c:∀n,bB P w K mg bJ "number_told" (1) ["thing"] (PN n)):∀n:Nat,bB P w K mg bJ "text_of" (n+3) ["thing","around","left"] (J4 n)|0=>bB.never D λvs H Q E⟨d,v,e,f,A,L,_,_,_,h,_⟩=>absurd h (Nat.not_lt_zero _)|n+1=>yI D M b a B (c (n+1)) (tq D M b a B c n)
noncomputable def jg(kvs:List (Key×V))(a:List Str):List (Key×V):=a.foldl (λk z=>putK k (Sum.inr z) (.bl true)) kvs
theorem je{z:Str}:∀{kvs:List (Key×V)},(kvs.any λkv=>decide (kv.1=Sum.inr z))=true↔z∈bZ kvs
 |[]=>by simp[bZ]
 |(k,v)::r=>by
  have a:=je (z:=z) (kvs:=r);rw[List.any_cons,Bool.or_eq_true,a];cases k with
   |inl i=>have e:bZ ((Sum.inl i,v)::r)=bZ r:=rfl;rw[e];simp
   |inr y=>
    have e:bZ ((Sum.inr y,v)::r)=y::bZ r:=rfl;rw[e,zQ34];have :decide ((Sum.inr y:Key)=Sum.inr z)=true↔z=y:=by rw[decide_eq_true_iff];exact⟨λh=>by injection h with h;exact h.symm,λh=>by rw[h]⟩
    rw[this]
theorem uz(kvs:List (Key×V))(z:Str)(v:V):bZ (putK kvs (Sum.inr z) v)=if z∈bZ kvs then bZ kvs else bZ kvs++[z]:=by
 unfold putK;by_cases h:z∈bZ kvs
 ·rw[if_pos (je.mpr h),if_pos h];unfold bZ;rw[List.filterMap_map];congr 1;funext p;have e:(if p.1=Sum.inr z then(p.1,v)else p).1=p.1:=by split<;>rfl
  show(match(if p.1=Sum.inr z then(p.1,v)else p).1 with| .inr z=>some z| .inl _=>none)=_;rw[e];all_goals(cases p with|mk k a=>cases k<;>rfl)
 ·rw[if_neg λc=>h (je.mp c),if_neg h];unfold bZ;rw[List.filterMap_append];rfl
theorem Ky(kvs:List (Key×V))(z:Str)(v:V)(h:kvs.length=(bZ kvs).length):(putK kvs (Sum.inr z) v).length=(bZ (putK kvs (Sum.inr z) v)).length:=by
 rw[uz];unfold putK;by_cases c:z∈bZ kvs;·rw[if_pos (je.mpr c),if_pos c,br,h]
 ·rw[if_neg λe=>c (je.mp e),if_neg c,cE,cE,h];rfl
noncomputable def l9(a:List Str):List Str:=bZ (jg [] a)
theorem rS:∀(d:List Str)(kvs:List (Key×V)),kvs.length=(bZ kvs).length->(bZ kvs).Nodup->(jg kvs d).length=(bZ (jg kvs d)).length/\(bZ (jg kvs d)).Nodup/\∀z,z∈bZ (jg kvs d)↔z∈bZ kvs\/z∈d
 |[],kvs,h,g=>⟨h,g,λz=>by simp[jg]⟩
 |y::d,kvs,h,g=>by
  have e:jg kvs (y::d)=jg (putK kvs (Sum.inr y) (.bl true)) d:=rfl;rw[e];have g':(bZ (putK kvs (Sum.inr y) (.bl true))).Nodup:=by
   rw[uz];split;·exact g
   ·rename_i c;exact List.nodup_append.mpr ⟨g,List.nodup_cons.mpr ⟨zQ16,List.nodup_nil⟩,λa ha b hb e=>c (by rw[List.mem_singleton.mp hb]at e;rw[<-e];exact ha)⟩
  obtain⟨h1,h2,h3⟩:=rS d _ (Ky kvs y _ h) g';refine⟨h1,h2,λz=>?_⟩;rw[h3,uz];split
  ·rename_i c;rw[zQ34];constructor
   ·rintro(h|h);·exact .inl h
    ·exact .inr (.inr h)
   ·rintro(h|rfl|h);·exact .inl h
    ·exact .inl c
    ·exact .inr h
  ·rw[List.mem_append,List.mem_singleton,zQ34,or_assoc]
theorem Ce(a:List Str)(z:Str):z∈l9 a↔z∈a:=by have :=(rS a [] rfl List.nodup_nil).2.2 z;simpa[bZ,l9]using this
theorem D9(kvs:List (Key×V))(a:List Str)(z:Str):jg kvs (a++[z])=putK (jg kvs a) (Sum.inr z) (.bl true):=by unfold jg;rw[List.foldl_append];rfl
theorem zN {a Ns : List Str} (h : ∀ z, z ∈ a -> z ∈ Ns) : (jg [] a).length <= Ns.length := by obtain ⟨h1, h2, h3⟩ := rS a [] rfl List.nodup_nil; rw [h1]; exact nX h2 λ z b => h z ((h3 z).mp b |>.elim (λ c => absurd c zQ16) id)
theorem jM:∀(n:Nat)(b m:Nat)(d:D),(∀z,z∈bC n (b:Int) d->z<(m:Int))->iz n (m+b) d
 |0,b,m,d,_=>by unfold iz;trivial
 |n+1,b,m,d,h=>by
  unfold iz;split
  ·rename_i x ps he;injection he with he;subst he;unfold bC at h;split
   ·rename_i a;rw[if_pos a]at h;split
    ·rename_i i;by_cases c:(b:Int)<=i;·have :=h (i-b) (by show _∈if(b:Int)<=i then[i-b]else[];rw[if_pos c];exact List.mem_singleton.mpr rfl);push_cast;omega
     ·push_cast;omega
    ·trivial
   ·rename_i a;rw[if_neg a]at h;intro i p e;rw[Nat.add_assoc];refine jM n (b+fg x i) m p λz f=>h z ?_;have hi:i<(ao x ps).length:=(List.getElem?_eq_some_iff.mp e).1;refine List.mem_flatten.mpr ⟨_,List.mem_map.mpr ⟨i,List.mem_range.mpr hi,rfl⟩,?_⟩;rw[e,Option.getD_some,xq];push_cast at f;exact f
  ·trivial
theorem Pg{T:List Str}{i:Nat}{z:Str}(h:z∈fc T i):z.length<=2:=by unfold fc at h;obtain⟨j,_,rfl⟩:=List.mem_map.mp (List.mem_filter.mp h).1;exact oA j
def wI(t:uw):Sp:=λvs H Q E=>∃(d:D)(v:V)(a:Addr)(N Ns:List Str),vs=[v, .ref a]/\Rep H d v/\Rz d 60/\H a=some (.lst (N.map V.str))/\(∀z,z∈N->z.length<=1000)/\N.length+Ns.length<=200/\aP d<=10000/\(∀z,z∈bf 60 d->z∈Ns)/\(∀z,z∈Ns->z.length<=1000)/\(bC 60 0 d).length<=16000000/\(bf 60 d).length<=16000000/\(∀z,z∈bC 60 0 d->0<=z/\z<63)/\((∀z,z∈bC 60 0 d->z<(N.length:Int))->∀H',aN H H'->Q (.str (ft 60 N ((fc (l9 (N++bf 60 d)) 702).take (depth d)) d)) H')/\((∃z,z∈bC 60 0 d/\(N.length:Int)<=z)->∀H',aN H H'->E (.ref t.bo) none H')
theorem jE:aT ["thing","names","free","taken","name"] ["thing","names"] (aw pU):=⟨rfl,rfl,rfl,by decide+kernel,rfl,by decide+kernel,by decide+kernel⟩
theorem IM(D:Df K mg "shown" pU ["thing","names"])(M:Mg mg t)(vv:yK K t.bo)(DK:bB P w K mg bJ "free_in" (140) ["thing"] (Se 60))(iQ:bB P w K mg bJ "names_in" (63) ["thing"] (Jz 60))(iN:bB P w K mg bJ "depth_of" (63) ["thing"] (z3 60))(vN:bB P w K mg bJ "names_left" (2) ["count","taken"] RH)(j7:bB P w K mg bJ "text_of" (63) ["thing","around","left"] (J4 60)):bB P w K mg (sG P w) "shown" (141) ["thing","names"] (wI t):=by
 refine D.okX jE (λvs H Q E h=>?_) (λbase f dh A outer s H vs Q E hr h=>?_);·obtain⟨d,v,u,N,Ns,rfl,_⟩:=h;rfl
 obtain⟨d,v,u,N,Ns,rfl,r,n,Qu,Io,YR,Xd,EJ,hnl,Il,DV,hf3,q,qx⟩:=h;have hu:=ql hr;refine⟨_,(af (aE (i:=2) jE.nd rfl (cI rfl) (aS DK hr.m rfl aX (aa (pv 0) ag))) (af (aU (L2.PW.pt (qU (av Nb (aL aV rfl M.dy cz (aa (pv 2) ag)) ah (ay _)) (ju (av xr (aH bH (pv 2) (iC fJ ah) (λ_ _=>rfl)) (aL aV rfl M.dy cz (aa (pv 1) ag)) (ay _))))) (ai (Fj (G:=(λH'=>E (.ref t.bo) none H')) vv M.g_NoVariable (aa ak ag) (λpins σ H s e h' I m q=>JE I m q))) aB) (af (aE (i:=3) jE.nd rfl (cI rfl) FD) (af (dC VL rfl (nE (aG rH (cf dk rfl M.qM jQ (aa (pv 1) ag)) (aS iQ hr.m rfl aX (aa (pv 0) ag)))) (bu (i:=4) jE.nd rfl (cI rfl)) (ai (IT hu (pv 3) (pv 4) jN rfl))) (ai (az (aS j7 hr.m rfl aX (aa (pv 0) (aa (cf dk rfl M.qM jQ (aa (pv 1) ag)) (aa (aS vN hr.m rfl aX (aa (aS iN hr.m rfl aX (aa (pv 0) ag)) (aa (pv 3) ag))) ag)))))))))),?_⟩;try dsimp only[lB,d5]
 refine RP ?_;intro _ _ _ _ _;rename_i D0 v5 v4 v3 v2;refine⟨_,rfl,d,v,rfl,r,n.wf,n.dp,Il,λz a=>hf3 z a,λL p J hn1 s1 ZK W h1=>?_⟩;have UK:=s1 _ _ Qu;have go:(∀z,z∈bC 60 0 d->z<(N.length:Int))->v3 D0 [some v,some (.ref u),some (.ref L),none,none] J:=by
  intro Kn;refineλg j5=>?_;have s2:=aq j5 (.dK []);have h2:(upd J g (.dK [])) g=some (.dK []):=aj;generalize upd J g (.dK [])=H2 at s2 h2⊢;have s02:=s1.trans s2;refine⟨_,rfl,u,_,rfl, .inl (aZ.of (s2 _ _ UK)),λO uP=>?_⟩;have S:=aq uP (.lst (N.map V.str));have h3:(upd H2 O (.lst (N.map V.str))) O=some (.lst (N.map V.str)):=aj;generalize upd H2 O (.lst (N.map V.str))=H3 at S h3⊢;refine⟨_,rfl,d,v,rfl,r.mono (s02.trans S),n.wf,n.dp,DV,λp4 H4 hn4 Z h4=>?_⟩;refine⟨O,p4,_,_,rfl,rfl,Z _ _ h3,h4,(by rw[br,br,show sizeLine=16777216 by decide];omega),λC VX=>?_⟩;rw[<-cO];have s5:=aq VX (.lst ((N++bf 60 d).map V.str));have h5:(upd H4 C (.lst ((N++bf 60 d).map V.str))) C=some (.lst ((N++bf 60 d).map V.str)):=aj;generalize upd H4 C (.lst ((N++bf 60 d).map V.str))=H5 at s5 h5⊢;have Tw:=S.trans (Z.trans s5);have n52:C≠g:=(aC (Z _ _ (S _ _ h2)) VX).symm;have XS:H g=none:=s1.free j5;have lim:∀i,(jg [] ((N++bf 60 d).take i)).length<=200:=λi=>cB (zN (Ns:=N++Ns) λz a=>by have a:=List.mem_of_mem_take a;rw[List.mem_append]at a⊢;exact a.imp id (EJ z)) (by rw[cE];exact YR);refine⟨C,rfl,⟨_,aZ.of h5⟩,Hi (xs:=(N++bf 60 d).map V.str) (λi U H'=>∃nv,U=[some v,some (.ref u),some (.ref L),some (.ref g),nv]/\H' g=some (.dK (jg [] ((N++bf 60 d).take i)))/\bp g H5 H') ⟨none,rfl,Tw _ _ h2,λ_ _ _ h=>h⟩ ?_ ?_ ?_⟩;·rintro i U H' hi⟨nv,rfl,B,F⟩;exact aZ.of (F _ _ n52 h5)
  ·rintro i x U H' hx⟨nv,rfl,B,F⟩;rw[fi]at hx;obtain⟨z,a,rfl⟩:=Option.map_eq_some_iff.mp hx;refine⟨_,rfl,_,rfl,g,_,rfl,GC.k (k:=Sum.inr z) B (Nat.lt_of_le_of_lt (lim i) (by decide)),_,rfl,?_,λc o hc h=>by rw[bb hc];exact F c o hc h⟩;rw[List.take_succ,a,Option.toList_some,D9];exact aj
  ·rintro U H'⟨nv,rfl,B,F⟩;rw[br,List.take_length]at B;have Y:∀(c:Addr)(o:HO),H c=some o->H' c=some o:=λc o h=>F c o (aC h XS) (Tw _ _ (s02 c o h));have SG:=lim (N++bf 60 d).length;rw[List.take_length]at SG;have d60:=n.dp;refine⟨_,rfl,_,rfl,u,_,rfl, .inl (aZ.of (Y _ _ Qu)),λR Ik=>?_⟩;have T:=aq Ik (.lst (N.map V.str));have h6:(upd H' R (.lst (N.map V.str))) R=some (.lst (N.map V.str)):=aj;generalize upd H' R (.lst (N.map V.str))=H6 at T h6⊢;refine⟨_,rfl,d,v,rfl,(r.mono Y).mono T,n,λH7 s7=>⟨_,rfl,depth d,g,_,rfl,s7 _ _ (T _ _ B),by omega,λp8 H8 hn8 s8 h8=>?_⟩⟩;have sA:aN H H8:=λc o h=>s8 _ _ (s7 _ _ (T _ _ (Y c o h)));have hl:((fc (l9 (N++bf 60 d)) 702).take (depth d)).length=depth d:=by
    have :=nY (l9 (N++bf 60 d)) 702;have h9:(l9 (N++bf 60 d)).length<=200:=by unfold l9;rw[<-(rS (N++bf 60 d) [] rfl List.nodup_nil).1];exact SG
    rw[iP];omega
   refine⟨d,v,R,p8,N,(fc (l9 (N++bf 60 d)) 702).take (depth d),rfl,r.mono sA,n.wf,n.dp,s8 _ _ (s7 _ _ h6),h8,?_,by omega,by omega,?_,Xd,λz a=>hnl z (EJ z a),λH9 s9=>q Kn H9 (sA.trans s9)⟩
   ·intro z a;rcases List.mem_append.mp a with a|a;·exact Io z a
    ·have :=Pg (List.mem_of_mem_take a);omega
   ·exact jM 60 0 N.length d Kn
 refine⟨_,rfl,L,_,rfl, .inl (aZ.of h1),_,_,rfl,rfl,_,rfl,?_⟩;refine bD (λc=>?_) (λc=>?_)
 ·have c:(0:Int)<(((p.map V.int).length:Nat):Int):=of_decide_eq_true c;rw[br]at c;obtain⟨z,a⟩:∃z,p[p.length-1]?=some z:=⟨_,zQ03 (by omega)⟩;refine⟨_,rfl,_,rfl,L,_,_, .int z,rfl,rfl,aZ.of h1,?_,_,rfl,u,_,rfl, .inl (aZ.of UK),_,_,rfl,rfl,_,rfl,?_⟩
  ·rcases List.eq_nil_or_concat p with rfl|⟨l,b,rfl⟩;·simp at c
   ·rw[List.length_concat,Nat.add_sub_cancel]at a;have e:z=b:=by simpa[List.concat_eq_append]using a.symm
    rw[e,List.concat_eq_append,cO];exact Fo _ _
  refine bD (λj=>?_) (λj=>go λy X=>?_);·have j:(((N.map V.str).length:Nat):Int)<=z:=of_decide_eq_true j;rw[br]at j;exact⟨by decide,qx ⟨z,(W z).mp (rW a),j⟩ J s1⟩
  ·have j:¬(((N.map V.str).length:Nat):Int)<=z:=of_decide_eq_false (Bool.eq_false_iff.mpr j);rw[br]at j;have :y<=z:=by
    obtain⟨i,hi,e⟩:=List.getElem_of_mem ((W y).mpr X);obtain⟨h3,e3⟩:=List.getElem?_eq_some_iff.mp a;rw[<-e,<-e3];by_cases ei:i=p.length-1;·subst ei;exact Int.le_refl _
    ·exact Int.le_of_lt (List.pairwise_iff_getElem.mp ZK i (p.length-1) hi h3 (by omega))
   omega
 ·have c:¬(0:Int)<(((p.map V.int).length:Nat):Int):=of_decide_eq_false (Bool.eq_false_iff.mpr c);rw[br]at c;refine go λy X=>?_;have :=List.length_pos_of_mem ((W y).mpr X);omega
end K56
end
section
namespace K56
open PySem L2 L3 KM PyProof.Rows
theorem GN:∀(b:List Str)(y:Str),wS (y++pe b).cps.toList=wS y.cps.toList++(b.map λz=>wS z.cps.toList).flatten
 |[],y=>by rw[fh,show(pe []).cps.toList=[]by decide+kernel,gg,List.map_nil,List.flatten_nil,gg]
 |z::a,y=>by
  have e:(y++pe (z::a)).cps.toList=y.cps.toList++32::(z++pe a).cps.toList:=by rw[fh,pe,fh,fh,fh,show(Str.ofString " ").cps.toList=[32]by decide+kernel,fk];rfl
  rw[e,wS,HC,cO];show wS _++wS _=_;rw[GN a z];rfl
theorem Js(x:Str)(a:List Str):wS ("("++Txt.join " " (x::a)++")").cps.toList=Str.ofString "("::(wS x.cps.toList++(a.map λz=>wS z.cps.toList).flatten++[Str.ofString ")"]):=by rw[gU,fh,fh,show(Str.ofString "(").cps.toList=[40]by decide+kernel,show(Str.ofString ")").cps.toList=[41]by decide+kernel,fk];show wS ([]++40::((x++pe a).cps.toList++41::[]))=_;rw[wS,vA 40 (.inl rfl),vA 41 (.inr rfl),B2,List.nil_append,cF,cO];show tx [40]::(wS _++[tx [41]])=_;rw[GN];rfl
theorem zS{nm:D->Bool}:∀{cs:List Nat}{ps:List D}{i:Nat}{p:D},mw nm cs ps=true->ps[i]?=some p->∃c,cs[i]?=some c/\hW nm c p=true|[],[],i,p,_,h=>by simp at h|[],_::_,_,_,h,_=>by simp[mw]at h|_::_,[],_,_,h,_=>by simp[mw]at h|c::cs,q::ps,i,p,h,e=>by rw[bF,bE]at h;cases i with|zero=>simp at e;subst e;exact⟨c,rfl,h.1⟩|succ i=>obtain⟨a,h1,h2⟩:=zS (i:=i) h.2 e;exact⟨a,h1,h2⟩
theorem qw:(bI.all λr=>if r.2=[]then decide (r.1∈(["nat","none","zero","var","name"]:List Str))else decide (r.1∈g7))=true:=by decide+kernel
theorem ji{x:Str}{r:List V}:∀{l:List (Str×List V)},l.lookup x=some r->(x,r)∈l
 |[],h=>by cases h
 |a::l,h=>by
  rw[iO]at h;split at h
  ·rename_i e;have e:x=a.1:=by simpa using e
   injection h with h;rw[e,<-h];exact cT
  ·exact dB _ (ji h)
theorem vz:∀n:Nat,iU (g_ n)=true|0=>by decide+kernel|n+1=>by show((PyData.str "next").canLay0&&(iU (g_ n)&&true))=true;rw[vz n];decide+kernel
theorem X9{x:Str}{i:Nat}(h:f_ x BO=false):fg x i=0:=by unfold fg jY;unfold f_ at h;cases e:KTD.datumAt x BO with|some v=>rw[e]at h;cases h|none=>rw[if_neg (by rw[Option.getD_none];simp)]
structure Ok(A L:List Str):Prop where
 nd:(A++L).Nodup
 nm:∀z,z∈A++L->isNm z=true
theorem Ok.next{A L:List Str}(h:Ok A L)(b:Nat):Ok (L.take b++A) (L.drop b):=by
 have p:(L.take b++A++L.drop b).Perm (A++L):=by have a:(L.take b++A++L.drop b).Perm (A++L.take b++L.drop b):=List.Perm.append_right _ List.perm_append_comm;rw[fk A,List.take_append_drop]at a;exact a
 exact⟨p.nodup_iff.mpr h.nd,λz c=>h.nm z (p.mem_iff.mp c)⟩
end K56
end
section
namespace K56
open PySem L2 L3 KM PyProof.Rows
seal L2.PE L2.PS L2.kq L2.PT L2.PW L2.PA L2.PG L2.zc L2.PI L2.PC L2.PO L2.Fg L2.PK L3.Cy L3.PEp L3.PSp L3.Zs L3.PSg
variable{P:Program}{w:World}{K:PySem.W.Frag}{mg:Str->Option Value}{base:Heap}{t:uw}
theorem sd(x y:Str):decide (V.str x=V.str y)=decide (x=y):=by
 by_cases h:x=y;·rw[h];simp
 ·rw[decide_eq_false h];exact decide_eq_false λq=>h (by injection q)
noncomputable def gG(x:Str):Str:=if x="all"\/x="some"then"kk"else if x="fun"\/x="like"\/x="never"then"kt"else if x="same"\/x="carry"\/x="pair"then"ktt"else if x="app"then"tt"else if x="rec"then"kttt"else"t"
def Ht:Sp:=λvs H Q _=>∃x:Str,vs=[.str x]/\Q (.str (gG x)) H
theorem um:aT ["_law_word"] ["_law_word"] (aw fE):=⟨rfl,rfl,rfl,by decide+kernel,rfl,by decide+kernel,by decide+kernel⟩
theorem yu(D:Df K mg "_law_shape" fE ["_law_word"])(M:Mg mg t):bB P w K mg bJ "_law_shape" (1) ["_law_word"] Ht:=by
 refine D.ok um (λvs H Q E h=>?_) (λbase f dh A outer s H vs Q E hr h=>?_);·obtain⟨x,rfl,_⟩:=h;rfl
 obtain⟨x,rfl,q⟩:=h;refine⟨_,(af (aU (L2.PW.pt (e_ (av bc (pv 0) ak (ay _)) (eY (av bc (pv 0) ak (ay _))))) (ai (az ak)) aB) (af (aU (L2.PW.pt (e_ (av bc (pv 0) ak (ay _)) (e_ (av bc (pv 0) ak (ay _)) (eY (av bc (pv 0) ak (ay _)))))) (ai (az ak)) aB) (af (aU (L2.PW.pt (e_ (av bc (pv 0) ak (ay _)) (e_ (av bc (pv 0) ak (ay _)) (eY (av bc (pv 0) ak (ay _)))))) (ai (az ak)) aB) (af (aU (av bc (pv 0) ak (ay _)) (ai (az ak)) aB) (af (aU (av bc (pv 0) ak (ay _)) (ai (az ak)) aB) (ai (az ak))))))),?_⟩;try dsimp only[lB,v]
 refine Ym ?_;intro _ _ _ _ _ _;refine⟨_,rfl,rfl,_,rfl,?_⟩;rw[sd];by_cases c:x="all"
 ·have e:gG x="kk":=by unfold gG;rw[if_pos (.inl c)]
  rw[e]at q;rw[decide_eq_true c];exact b9 (b9 q)
 rw[decide_eq_false c];refine cS ⟨_,rfl,rfl,_,rfl,?_⟩;rw[sd];by_cases d:x="some"
 ·have e:gG x="kk":=by unfold gG;rw[if_pos (.inr d)]
  rw[e]at q;rw[decide_eq_true d];exact b9 q
 rw[decide_eq_false d];have a:¬(x="all"\/x="some"):=λh=>h.elim c d;refine cS ⟨_,rfl,rfl,_,rfl,?_⟩;rw[sd];by_cases g:x="fun"
 ·have e:gG x="kt":=by unfold gG;rw[if_neg a,if_pos (.inl g)]
  rw[e]at q;rw[decide_eq_true g];exact b9 (b9 q)
 rw[decide_eq_false g];refine cS ⟨_,rfl,rfl,_,rfl,?_⟩;rw[sd];by_cases i:x="like"
 ·have e:gG x="kt":=by unfold gG;rw[if_neg a,if_pos (.inr (.inl i))]
  rw[e]at q;rw[decide_eq_true i];exact b9 (b9 q)
 rw[decide_eq_false i];refine cS ⟨_,rfl,rfl,_,rfl,?_⟩;rw[sd];by_cases j:x="never"
 ·have e:gG x="kt":=by unfold gG;rw[if_neg a,if_pos (.inr (.inr j))]
  rw[e]at q;rw[decide_eq_true j];exact b9 q
 rw[decide_eq_false j];have b:¬(x="fun"\/x="like"\/x="never"):=λh=>h.elim g λh=>h.elim i j;refine cS ⟨_,rfl,rfl,_,rfl,?_⟩;rw[sd];by_cases k:x="same"
 ·have e:gG x="ktt":=by unfold gG;rw[if_neg a,if_neg b,if_pos (.inl k)]
  rw[e]at q;rw[decide_eq_true k];exact b9 (b9 q)
 rw[decide_eq_false k];refine cS ⟨_,rfl,rfl,_,rfl,?_⟩;rw[sd];by_cases l:x="carry"
 ·have e:gG x="ktt":=by unfold gG;rw[if_neg a,if_neg b,if_pos (.inr (.inl l))]
  rw[e]at q;rw[decide_eq_true l];exact b9 (b9 q)
 rw[decide_eq_false l];refine cS ⟨_,rfl,rfl,_,rfl,?_⟩;rw[sd];by_cases m:x="pair"
 ·have e:gG x="ktt":=by unfold gG;rw[if_neg a,if_neg b,if_pos (.inr (.inr m))]
  rw[e]at q;rw[decide_eq_true m];exact b9 q
 rw[decide_eq_false m];have p:¬(x="same"\/x="carry"\/x="pair"):=λh=>h.elim k λh=>h.elim l m;refine cS ⟨_,rfl,rfl,_,rfl,?_⟩;rw[sd];by_cases n:x="app"
 ·have e:gG x="tt":=by unfold gG;rw[if_neg a,if_neg b,if_neg p,if_pos (n)]
  rw[e]at q;rw[decide_eq_true n];exact b9 q
 rw[decide_eq_false n];have r:=n;refine cS ⟨_,rfl,rfl,_,rfl,?_⟩;rw[sd];by_cases o:x="rec"
 ·have e:gG x="kttt":=by unfold gG;rw[if_neg a,if_neg b,if_neg p,if_neg r,if_pos (o)]
  rw[e]at q;rw[decide_eq_true o];exact b9 q
 rw[decide_eq_false o];have u:=o;have e:gG x="t":=by unfold gG;rw[if_neg a,if_neg b,if_neg p,if_neg r,if_neg u]
 rw[e]at q;exact cS q
noncomputable def iX(x:Str):Int:=if x="all"\/x="some"\/x="fun"then 1 else if x="rec"\/x="carry"then 0 else-1
def qJ:Sp:=λvs H Q _=>∃x:Str,vs=[.str x]/\Q (.int (iX x)) H
theorem u9:aT ["_law_word"] ["_law_word"] (aw fv):=⟨rfl,rfl,rfl,by decide+kernel,rfl,by decide+kernel,by decide+kernel⟩
theorem xo(D:Df K mg "_law_bound" fv ["_law_word"])(M:Mg mg t):bB P w K mg bJ "_law_bound" (1) ["_law_word"] qJ:=by
 refine D.ok u9 (λvs H Q E h=>?_) (λbase f dh A outer s H vs Q E hr h=>?_);·obtain⟨x,rfl,_⟩:=h;rfl
 obtain⟨x,rfl,q⟩:=h;refine⟨_,(af (aU (L2.PW.pt (e_ (av bc (pv 0) ak (ay _)) (e_ (av bc (pv 0) ak (ay _)) (eY (av bc (pv 0) ak (ay _)))))) (ai (az ah)) aB) (af (aU (L2.PW.pt (e_ (av bc (pv 0) ak (ay _)) (eY (av bc (pv 0) ak (ay _))))) (ai (az ah)) aB) (ai (az (iC fJ ah))))),?_⟩;try dsimp only[lB,k]
 refine Vt ?_;intro _ _ _;refine⟨_,rfl,rfl,_,rfl,?_⟩;rw[sd];by_cases a:x="all"
 ·have e:iX x=1:=by unfold iX;rw[if_pos (.inl a)]
  rw[e]at q;rw[decide_eq_true a];exact b9 (b9 q)
 rw[decide_eq_false a];refine cS ⟨_,rfl,rfl,_,rfl,?_⟩;rw[sd];by_cases b:x="some"
 ·have e:iX x=1:=by unfold iX;rw[if_pos (.inr (.inl b))]
  rw[e]at q;rw[decide_eq_true b];exact b9 (b9 q)
 rw[decide_eq_false b];refine cS ⟨_,rfl,rfl,_,rfl,?_⟩;rw[sd];by_cases c:x="fun"
 ·have e:iX x=1:=by unfold iX;rw[if_pos (.inr (.inr c))]
  rw[e]at q;rw[decide_eq_true c];exact b9 q
 rw[decide_eq_false c];have i:¬(x="all"\/x="some"\/x="fun"):=λh=>h.elim a λh=>h.elim b c;refine cS ⟨_,rfl,rfl,_,rfl,?_⟩;rw[sd];by_cases d:x="rec"
 ·have e:iX x=0:=by unfold iX;rw[if_neg i,if_pos (.inl d)]
  rw[e]at q;rw[decide_eq_true d];exact b9 (b9 q)
 rw[decide_eq_false d];refine cS ⟨_,rfl,rfl,_,rfl,?_⟩;rw[sd];by_cases g:x="carry"
 ·have e:iX x=0:=by unfold iX;rw[if_neg i,if_pos (.inr g)]
  rw[e]at q;rw[decide_eq_true g];exact b9 q
 rw[decide_eq_false g];have j:¬(x="rec"\/x="carry"):=λh=>h.elim d g;have e:iX x=-1:=by unfold iX;rw[if_neg i,if_neg j]
 rw[e]at q;exact cS ⟨_,rfl,q⟩
seal L3.PH L3.PB
theorem G2{k:Bool}{d:D}(h:dZ aY k d=true):isTup d=true:=by obtain⟨x,ps,rfl⟩:=gm h;rfl
theorem g8(d:D):∀l:List D,bq (l++[d])=max (bq l) (depth d)|[]=>by simp[bq]|a::l=>by show max (depth a) (bq (l++[d]))=max (max (depth a) (bq l)) (depth d);rw[g8 d l,Nat.max_assoc]
theorem gW(d:D):∀l:List D,bh (l++[d])=bh l+aP d|[]=>by simp[bh]|a::l=>by show aP a+bh (l++[d])=aP a+bh l+aP d;rw[gW d l,Nat.add_assoc]
theorem Bw{ps:List D}{i:Nat}{p:D}(h:ps[i]?=some p):bh (ps.take (i+1))=bh (ps.take i)+aP p/\bq (ps.take (i+1))=max (bq (ps.take i)) (depth p):=by rw[List.take_succ,h,Option.toList_some,gW,g8];exact⟨rfl,rfl⟩
theorem RR{ps:List D}(i:Nat):bh (ps.take i)<=bh ps:=by induction ps generalizing i with|nil=>simp|cons a l b=>cases i with|zero=>simp[bh]|succ i=>have :=b i;rw[List.take_succ_cons,bh,bh];omega
theorem rK{k:Bool}{x:Str}{ps:List D}{i:Nat}{p:D}(wf:dZ aY k (.tup (.str x::ps))=true)(h:ps[i]?=some p):(isTup p=true/\ao x ps=ps)\/(isTup p=false/\ao x ps=[]):=by
 obtain⟨sh,l,m,b,n,o,d,f,_⟩:=bA wf;obtain⟨c,hc,hd⟩:=zS b h;have a:=d c (rW hc);unfold ao;unfold hW at hd;cases hl:d8 x with
  |false=>
   rw[hl]at a;rw[if_neg (by decide)];refine .inl ⟨?_,rfl⟩;rcases f hl c (rW hc)with rfl|rfl;·rw[if_pos rfl]at hd;exact G2 hd
   ·rw[if_neg (by decide),if_pos rfl]at hd;exact G2 hd
  |true=>
   rw[hl]at a;rw[if_pos rfl];refine .inr ⟨?_,rfl⟩;have g:c≠107:=λe=>by rw[e]at a;revert a;decide+kernel
   have j:c≠116:=λe=>by rw[e]at a;revert a;decide+kernel
   rw[if_neg g,if_neg j]at hd;cases p with|tup ds=>split at hd<;>cases hd|_=>rfl
noncomputable def yZ(n:Nat)(ps:List D)(j:Nat):List Str:=((List.range j).map λi=>bf n ((ps[i]?).getD .bz)).flatten
theorem vO{n:Nat}{ps:List D}(h:∀p,p∈ps->(bf n p).length<=aP p):∀j,j<=ps.length->(yZ n ps j).length<=bh (ps.take j)|0,_=>zQ27 _|j+1,hj=>by obtain⟨p,a⟩:∃p,ps[j]?=some p:=⟨_,zQ03 (by omega)⟩;have b:=vO h j (by omega);have :=h p (rW a);unfold yZ at b⊢;rw[mV,cE,(Bw a).1,a,Option.getD_some];omega
theorem uN:∀(n:Nat)(d:D),(bf n d).length<=aP d
 |0,d=>by unfold bf;exact zQ27 _
 |n+1,d=>by
  unfold bf;split
  ·rename_i x ps he;injection he with he;subst he;have a:aP (.tup (.str x::ps))=1+bh ps:=by simp[aP,bh]
   rw[a];split
   ·split;·simp
    ·exact zQ27 _
   ·unfold ao;split;·exact zQ27 _
    ·have :=vO (n:=n) (ps:=ps) (λp _=>uN n p) ps.length (zQ04 _);rw[List.take_length]at this;unfold yZ at this;omega
  ·exact zQ27 _
theorem GW{n:Nat}{p:D}(h:isTup p=false):bf n p=[]:=by cases n with|zero=>rfl|succ n=>cases p with|tup ds=>cases h|_=>rfl
theorem zk{k:Bool}{x:Str}{ps:List D}(wf:dZ aY k (.tup (.str x::ps))=true)(g:ao x ps≠[]):x∈g7/\gB x=k:=by
 obtain⟨sh,i,d,j,l,m,n,o,r,e,f⟩:=bA wf;have b:=List.all_eq_true.mp qw _ (ji e);have c:x∈g7:=by rw[if_neg λz=>g (List.length_eq_zero_iff.mp (by rw[<-f,show r=[]from z];rfl))]at b;exact of_decide_eq_true b
 have a:=List.all_eq_true.mp vP x c;simp only[bE,decide_eq_true_eq]at a;have h:kG x=gB x:=by simpa using a.2.2.2.2.1
 exact⟨c,by rw[<-d,h]⟩
theorem yL:(g7.all λx=>(decide (sQ x=(gG x).cps.toList.map (λc=>if c=107 then Str.ofString "kind"else"term"))&&(gG x).cps.toList.all (λc=>decide (c=107\/c=116)))&&((if iX x=-1 then !f_ x BO else f_ x BO&&decide (jY x= .int (iX x)))&&(decide (0<=iX x\/iX x=-1)&&decide ((gG x).length<=4))))=true:=by decide+kernel
theorem FK{x:Str}(a:x∈g7)(i:Nat):se x i=if((i:Nat):Int)=iX x then 1 else 0:=by
 have h:=List.all_eq_true.mp yL x a;simp only[bE,decide_eq_true_eq]at h;obtain⟨_,h,_,_⟩:=h;unfold se;split at h
 ·rename_i hb;rw[if_neg (show¬((i:Nat):Int)=iX x by rw[hb];omega)];have hi:f_ x BO=false:=by simpa using h
  have :jY x= .bz:=by unfold jY;unfold f_ at hi;cases e:KTD.datumAt x BO with|some v=>rw[e]at hi;cases hi|none=>rfl
  rw[this,if_neg (by simp)]
 ·rw[bE]at h;rw[of_decide_eq_true h.2];by_cases c:((i:Nat):Int)=iX x;·rw[if_pos c,if_pos (by rw[c];simp)]
  ·rw[if_neg c,if_neg (by simp;exact c)]
def Iz(n:Nat):Sp:=λvs H Q _=>∃(d:D)(v:V)(b:Int),vs=[v, .int b]/\Rep H d v/\Wf d/\depth d<n/\0<=b/\(∀z,z∈bC n b d->z<=35)/\∀(g:Int)(H':Hp),aN H H'->(∀z,z∈bC n b d->z<=g)->g<=35->(b=0->-1<=g)->(0<=g->g∈bC n b d)->Q (.int g) H'
theorem cX:aT ["_law_thing_here","_law_over","_law_found","_law_k"] ["_law_thing_here","_law_over"] (aw cG):=⟨rfl,rfl,rfl,by decide+kernel,rfl,by decide+kernel,by decide+kernel⟩
theorem my{n:Nat}(D:Df K mg "_law_greatest" cG ["_law_thing_here","_law_over"])(M:Mg mg t)(a_:bB P w K mg bJ "_law_bound" (1) ["_law_word"] qJ)(eO:bB P w K mg bJ "_law_greatest" (n+131) ["_law_thing_here","_law_over"] (Iz n)):bB P w K mg bJ "_law_greatest" (n+132) ["_law_thing_here","_law_over"] (Iz (n+1)):=by
 refine D.ok cX (λvs H Q E h=>?_) (λbase f dh A outer s H vs Q E hr h=>?_);·obtain⟨d,v,b,rfl,_⟩:=h;rfl
 obtain⟨d,v,b,rfl,r,ig,hd,hb,o,q⟩:=h;have hh:=hr.hd (by omega);refine⟨_,(af (aU (av bc (aH aM (pv 0) ah (λ_ _=>rfl)) ak (ay _)) (ai (az (aG iR (aH aM (pv 0) ah (λ_ _=>rfl)) (pv 1)))) aB) (af (aE (i:=2) cX.nd rfl (cI rfl) (iC fJ ah)) (af (dC PassesOwn.never rfl (j_ rfl M.fI (aa ah (aa (aL aV rfl M.dy cz (aa (pv 0) ag)) ag))) (bu (i:=3) cX.nd rfl (cI rfl)) (ai (aU (iK (aL fw rfl M.bX bK (aa (aH aM (pv 0) (pv 3) (λ_ _=>rfl)) (aa (xl M.u7 qv rfl) ag)))) (ai (aE (i:=2) cX.nd rfl (cI rfl) (aL (C0 hh) rfl M.KR Hf (aa (pv 2) (aa (aS eO hr.m rfl aX (aa (aH aM (pv 0) (pv 3) (λ_ _=>rfl)) (aa (aG cq (pv 1) (cf kr rfl M.Fz yN (aa (gd bc (aG iR (pv 3) ah) (aS a_ hr.m rfl aX (aa (aH aM (pv 0) ah (λ_ _=>rfl)) ag)) (ay _)) ag))) ag))) ag))))) aB))) (ai (az (pv 2)))))),?_⟩;try dsimp only[lB,d5]
 refine rJ ?_;intro _ _ _ _;obtain⟨x,ps,k,rfl,wf,zM⟩:=hV ig;obtain⟨a,wq,rfl,ha,v0,us,rfl,⟨rfl,hx⟩,W⟩:=id r;have Qz:=W.length;have ea:gP (V.str x::us) 0=some (.str x):=aF (j:=0) rfl;refine⟨_,rfl,a,_,_,_,rfl,rfl,cN.of ha,ea,rfl,_,rfl,?_⟩;refine bD (λc=>?_) (λc=>?_)
 ·have c:V.str x=V.str "var":=of_decide_eq_true c;cases c;obtain⟨sh,Z,_,N,_,O,_⟩:=bA wf;rw[de]at Z;cases Z;rw[qu]at N O;obtain⟨y,rfl⟩:∃y,ps=[y]:=by cases ps with|nil=>simp at O|cons y rest=>cases rest with|nil=>exact⟨y,rfl⟩|cons _ _=>simp at O
  rw[bF,bE]at N;have hn:eQ y=true:=by simpa[hW]using N.1
  obtain⟨i,rfl⟩:∃i,y= .int i:=by cases y<;>first|exact⟨_,rfl⟩|simp[eQ]at hn
  obtain⟨u1,Ih,rfl,r1,_⟩:=W;cases(show u1=V.int i from r1);have h0:0<=i:=by simp[eQ]at hn;omega
  have e:bC (n+1) b (.tup [.str "var", .int i])=if b<=i then[i-b]else[]:=by rw[bC,if_pos rfl]
  rw[e]at q o;refine⟨_,rfl,a,_,_, .int i,rfl,rfl,cN.of ha,aF (j:=1) rfl,_,rfl,_,_,rfl,rfl,q (i-b) H (aN.refl H) ?_ ?_ ?_ ?_⟩
  ·intro z o;split at o;·rw[List.mem_singleton.mp o];exact Int.le_refl _
   ·exact absurd o zQ16
  ·by_cases c:b<=i;·exact o _ (by rw[if_pos c];exact List.mem_singleton.mpr rfl)
   ·omega
  ·intro hb0;omega
  ·intro G;rw[if_pos (by omega)];exact List.mem_singleton.mpr rfl
 have hv:x≠"var":=λz=>c (by rw[z];exact decide_eq_true rfl);have e:bC (n+1) b (.tup (.str x::ps))=((List.range (ao x ps).length).map λi=>bC n (b+se x i) (((ao x ps)[i]?).getD .bz)).flatten:=by
  conv=>lhs;unfold bC
  exact if_neg hv
 rw[e]at q o;have BV:∀(i:Nat)(p:KM.D),(ao x ps)[i]?=some p->∀z,z∈bC n (b+se x i) p->z∈((List.range (ao x ps).length).map λi=>bC n (b+se x i) (((ao x ps)[i]?).getD .bz)).flatten:=λi p m z h=>by have hi:i<(ao x ps).length:=(List.getElem?_eq_some_iff.mp m).1;exact List.mem_flatten.mpr ⟨_,List.mem_map.mpr ⟨i,List.mem_range.mpr hi,rfl⟩,by rw[m,Option.getD_some];exact h⟩
 have big:-(2^62:Int)<=(((V.str x::us).length:Nat):Int)/\(((V.str x::us).length:Nat):Int)<2^62:=by rw[cU];omega
 refine⟨_,rfl,_,rfl,a,_,rfl, .inr (cN.of ha),1,_,rfl,⟨by decide,by decide,big.1,big.2⟩,?_⟩;rw[show((((V.str x::us).length:Nat):Int)-1).toNat=us.length by rw[cU];omega];refine d4 us.length (λj X H'=>∃(g:Int)(kv:Option V),X=[some (.ref a),some (.int b),some (.int g),kv]/\aN H H'/\-1<=g/\g<=35/\(∀i p,i<j->(ao x ps)[i]?=some p->∀z,z∈bC n (b+se x i) p->z<=g)/\(0<=g->g∈((List.range (ao x ps).length).map λi=>bC n (b+se x i) (((ao x ps)[i]?).getD .bz)).flatten)) ⟨-1,none,rfl,aN.refl H,by omega,by omega,λi p hi=>absurd hi (Nat.not_lt_zero _),λh=>absurd h (by decide)⟩ ?_ ?_
 ·rintro j X H' hj⟨g,kv,rfl,F,R,S,T,I⟩;refine⟨hj,?_⟩;rintro x' H3⟨rfl,rfl⟩;obtain⟨p,m⟩:∃p,ps[j]?=some p:=⟨_,zQ03 (by omega)⟩;obtain⟨u,hu,ru⟩:=W.get m;have NJ:=ru.mono F;have U:=F _ _ ha;have e0:(1:Int)+(j:Int)=((j+1:Nat):Int):=by omega
  have eu:gP (V.str x::us) (1+(j:Int))=some u:=by rw[e0];exact aF (j:=j+1) hu
  refine⟨_,rfl,_,rfl,a,_,_,_,rfl,rfl,cN.of U,eu,_,_,_,_,rfl,NJ.ty,BZ _ p,_,rfl,?_⟩;rcases rK wf m with⟨J,L⟩|⟨J,L⟩
  ·rw[J];have B:(ao x ps)[j]?=some p:=by rw[L];exact m
   obtain⟨w1,w2⟩:=c6 wf B;obtain⟨fx,_⟩:=zk wf (λz=>by rw[z]at B;cases B);have IK:=FK fx j;refine b9 ⟨_,rfl,_,rfl,_,rfl,a,_,_,_,rfl,rfl,cN.of U,eu,?_⟩;refine⟨_,rfl,_,rfl,_,_,rfl,rfl,_,rfl,a,_,_,_,rfl,rfl,cN.of U,ea,x,rfl,rfl, .inr ⟨_,rfl,_,_,rfl,rfl,p,u,b+se x j,?_,NJ,w1,by omega,?_,λz h=>o z (BV j p B z h),λg' H4 s4 h1 h2 h3 h4=>?_⟩⟩
   ·show[u,V.int (b+if decide (V.int (1+(j:Int)-1)=V.int (iX x))=true then 1 else 0)]=_;rw[IK,show(1:Int)+(j:Int)-1=((j:Nat):Int)by omega];by_cases c:((j:Nat):Int)=iX x;·rw[if_pos c,if_pos (by rw[c];exact decide_eq_true rfl)]
    ·rw[if_neg c,if_neg (λh=>c (by have :=of_decide_eq_true h;injection this))]
   ·have :=Hm x j;omega
   ·refine⟨_,_,rfl,(if g'>g then g' else g),some (.int (1+(j:Int))),rfl,F.trans s4,by split<;>omega,by split<;>omega,λi p' hi C z Vr=>?_,λG=>?_⟩;by_cases YO:i=j;·subst YO;rw[B]at C;cases C;have :=h1 z Vr;split<;>omega
    ·have :=T i p' (by omega) C z Vr;split<;>omega
    by_cases Y:g'>g;·rw[if_pos Y]at G⊢;exact BV j p B _ (h4 G)
    ·rw[if_neg Y]at G⊢;exact I G
  ·rw[J];refine cS ⟨g,_,rfl,F,R,S,λi p' hi C=>?_,I⟩;rw[L]at C;cases C
 ·rintro X H'⟨g,kv,rfl,F,R,S,T,I⟩;refine⟨zQ04 _,_,rfl,q g H' F ?_ S (λ_=>R) I⟩;intro z h;obtain⟨l,hl,C6⟩:=List.mem_flatten.mp h;obtain⟨i,hi,rfl⟩:=List.mem_map.mp hl;have hi:=List.mem_range.mp hi;obtain⟨p,m⟩:∃p,(ao x ps)[i]?=some p:=⟨_,zQ03 hi⟩;rw[m,Option.getD_some]at C6;refine T i p ?_ m z C6;unfold ao at hi;split at hi;·simp at hi
  ·omega
theorem gX(D:Df K mg "_law_greatest" cG ["_law_thing_here","_law_over"])(M:Mg mg t)(a:bB P w K mg bJ "_law_bound" (1) ["_law_word"] qJ):∀n:Nat,bB P w K mg bJ "_law_greatest" (n+131) ["_law_thing_here","_law_over"] (Iz n)|0=>bB.never D λvs H Q E⟨d,v,b,_,_,_,h,_⟩=>absurd h (Nat.not_lt_zero _)|n+1=>my D M a (gX D M a n)
noncomputable def six:List Str:=["b","c","plus","lookalikeone","lookalikezne","aa"]
structure DF(k:Bool)(b:Nat)(d:D):Prop where
 wf:dZ aY k d=true
 cm:iU d=true
 nm:∀n z,z∈bf n d->z∈six
 fr:∀n z,z∈bC n (b:Int) d->0<=z/\z<=35
theorem mW{k:Bool}{b:Nat}{x:Str}(wf:dZ aY k (.tup [.str x])=true)(cm:iU (.tup [.str x])=true)(h:x≠"var")(h':x≠"name"):DF k b (.tup [.str x]):=by
 refine⟨wf,cm,λn z a=>?_,λn z a=>?_⟩;·cases n with|zero=>exact absurd a zQ16|succ n=>unfold bf at a;rw[if_neg h',show ao x []=[]by unfold ao;split<;>rfl]at a;exact absurd a zQ16
 ·cases n with|zero=>exact absurd a zQ16|succ n=>unfold bC at a;rw[if_neg h,show ao x []=[]by unfold ao;split<;>rfl]at a;exact absurd a zQ16
theorem BD{k:Bool}{b:Nat}{x:Str}{ps:List D}(wf:dZ aY k (.tup (.str x::ps))=true)(cm:iU (.tup (.str x::ps))=true)(h:x≠"var")(h':x≠"name")(e:∀i p,(ao x ps)[i]?=some p->∃f,DF f (b+fg x i) p):DF k b (.tup (.str x::ps)):=by
 refine⟨wf,cm,λn z a=>?_,λn z a=>?_⟩;·cases n with|zero=>exact absurd a zQ16|succ n=>unfold bf at a;rw[if_neg h']at a;obtain⟨l,hl,d⟩:=List.mem_flatten.mp a;obtain⟨i,hi,rfl⟩:=List.mem_map.mp hl;have hi:=List.mem_range.mp hi;obtain⟨p,c⟩:∃p,(ao x ps)[i]?=some p:=⟨_,zQ03 hi⟩;rw[c,Option.getD_some]at d;obtain⟨_,g⟩:=e i p c;exact g.nm n z d
 ·cases n with|zero=>exact absurd a zQ16|succ n=>unfold bC at a;rw[if_neg h]at a;obtain⟨l,hl,d⟩:=List.mem_flatten.mp a;obtain⟨i,hi,rfl⟩:=List.mem_map.mp hl;have hi:=List.mem_range.mp hi;obtain⟨p,c⟩:∃p,(ao x ps)[i]?=some p:=⟨_,zQ03 hi⟩;rw[c,Option.getD_some,xq]at d;obtain⟨_,g⟩:=e i p c;exact g.fr n z (by push_cast;exact d)
theorem F_{b:Nat}:∀n:Nat,DF false b (g_ n)
 |0=>mW (zo 0) (vz 0) (by decide+kernel) (by decide+kernel)
 |n+1=>BD (x:="next") (ps:=[g_ n]) (zo (n+1)) (vz (n+1)) (by decide+kernel) (by decide+kernel) λi p a=>⟨false,by
  have e:ao "next" [g_ n]=[g_ n]:=by unfold ao;rw[if_neg (by decide+kernel)]
  rw[e]at a;cases i with|zero=>cases a;exact F_ n|succ i=>simp at a⟩
theorem Jd{b:Nat}{z:Str}(h:z∈six):DF false b (.tup [.str "name", .str z]):=by
 have a:(six.all λz=>iU (.tup [.str "name", .str z]))=true:=by decide+kernel
 refine⟨?_,List.all_eq_true.mp a z h,λn y c=>?_,λn y c=>?_⟩;·exact iS (w:="name") (s:="w") (by decide+kernel) (by decide+kernel) (by rw[show(Str.ofString "w").cps.toList=[119]by decide+kernel,bF];rfl)
 ·cases n with|zero=>exact absurd c zQ16|succ n=>unfold bf at c;rw[if_pos rfl]at c;rw[List.mem_singleton.mp c];exact h
 ·cases n with|zero=>exact absurd c zQ16|succ n=>unfold bC at c;rw[if_neg (by decide+kernel),show ao "name" [.str z]=[]by unfold ao;rw[if_pos (by decide+kernel)]]at c;exact absurd c zQ16
theorem E9{b:Nat}{i:Int}(c:0<=i)(h1:i<=99)(h2:i<=b+35):DF false b (.tup [.str "var", .int i]):=by
 refine⟨?_,?_,λn y a=>?_,λn y a=>?_⟩;·exact iS (w:="var") (s:="n") (by decide+kernel) (by decide+kernel) (by rw[show(Str.ofString "n").cps.toList=[110]by decide+kernel,bF];simp[hW,eQ,mw];omega)
 ·show(iU (.str "var")&&(iU (.int _)&&true))=true;rw[show iU (.str "var")=true by decide+kernel];rfl
 ·cases n with|zero=>exact absurd a zQ16|succ n=>unfold bf at a;rw[if_neg (by decide+kernel),show ao "var" [.int i]=[]by unfold ao;rw[if_pos (by decide+kernel)]]at a;exact absurd a zQ16
 ·cases n with
   |zero=>exact absurd a zQ16
   |succ n=>
    rw[bC,if_pos rfl]at a;split at a;·rw[List.mem_singleton.mp a];omega
    ·exact absurd a zQ16
structure LfT(p:Addr)(k:Bool)(b:Nat)(i left:Int)(H:Hp)(v:V)(H':Hp):Prop where
 ex:∃(d:D)(gV:Int),bp p H H'/\H' p=some (.lst [.int i, .int gV])/\0<=gV/\gV<=left/\DF k b d/\depth d<=31/\((aP d:Nat):Int)<=1+(left-gV)/\Rep H' d v
theorem km{H:Hp}{p:Addr}{x:Str}{ds:List D}{vs:List V}(h:H p=some (.tup (.str x::vs)))(a:x.length<=1000)(r:cv H ds vs):Rep H (.tup (.str x::ds)) (.ref p):=⟨p,_,rfl,h,_,_,rfl,⟨rfl,a⟩,r⟩
def Jh:Sp:=λvs H Q _=>∃(c:Int)(want:Str)(b:Nat)(p:Addr)(i left:Int),vs=[.int c, .str want, .int (b:Nat), .ref p]/\H p=some (.lst [.int i, .int left])/\0<=left/\left<=200/\b<=50/\(want="k"\/want="t")/\∀(v:V)(H':Hp),LfT p (decide (want="k")) b i left H v H'->Q v H'
theorem dW:aT ["_law_cell","_law_want","_law_over","_law_state","_law_many","_law_thing_here","_law_k"] ["_law_cell","_law_want","_law_over","_law_state"] (aw gq):=⟨rfl,rfl,rfl,by decide+kernel,rfl,by decide+kernel,by decide+kernel⟩
theorem yC(D:Df K mg "_law_leaf" gq ["_law_cell","_law_want","_law_over","_law_state"])(M:Mg mg t):bB P w K mg bJ "_law_leaf" (131) ["_law_cell","_law_want","_law_over","_law_state"] Jh:=by
 refine D.ok dW (λvs H Q E h=>?_) (λbase f dh A outer s H vs Q E hr h=>?_);·obtain⟨c,want,b,p,i,left,rfl,_⟩:=h;rfl
 obtain⟨c,want,b,p,i,left,rfl,d,o,l1,hb,hw,q⟩:=h;have hu:=ql hr;have hh:=hr.hd (by decide);refine⟨_,(af (aU (av bc (pv 1) ak (ay _)) (ai (az (aH bH (bw (aa (d3 (aa ak ag)) (aa (d3 (aa ak ag)) ag))) (aG cQ (pv 0) ah) (λ_ _=>rfl)))) aB) (af (aU (av bc (aG cQ (pv 0) ah) ah (ay _)) (af (aE (i:=4) dW.nd rfl (cI rfl) (aL (C4 hh) rfl M.UD Pd (aa (aG cQ (aG dI (pv 0) ah) ah) (aa (aH bH (pv 3) ah (λ_ _=>rfl)) ag)))) (af (E6 (aG iR (aH bH (pv 3) ah (λ_ _=>rfl)) (pv 4)) (Gd (pv 3) ah set_list)) (af (aE (i:=5) dW.nd rfl (cI rfl) (d3 (aa ak ag))) (af (dC PassesOwn.never rfl (fR rfl M.fI (aa (pv 4) ag)) (bu (i:=6) dW.nd rfl (cI rfl)) (ai (aE (i:=5) dW.nd rfl (cI rfl) (d3 (aa ak (aa (pv 5) ag)))))) (ai (az (pv 5))))))) aB) (af (aU (av bc (aG cQ (pv 0) ah) ah (ay _)) (ai (az (d3 (aa ak (aa (aH bH (bw (aa ak (aa ak (aa ak (aa ak (aa ak (aa ak ag))))))) (aG cQ (aG dI (pv 0) ah) ah) (λ_ _=>rfl)) ag))))) aB) (ai (az (d3 (aa ak (aa (aG cQ (aG dI (pv 0) ah) (aG cq (pv 2) ah)) ag)))))))),?_⟩;try dsimp only[lB,d5]
 refine rJ ?_;intro _ _ _ _;refine⟨_,rfl,rfl,_,rfl,?_⟩;rw[sd];have R:depth Ey<=31:=by decide+kernel
 have S:depth (.tup [.str "none"])<=31:=by decide+kernel
 have k1:aP Ey=1:=by decide+kernel
 have k2:aP (.tup [.str "none"])=1:=by decide+kernel
 rcases hw with rfl|rfl
 ·rw[decide_eq_true rfl];rw[decide_eq_true rfl]at q;refine b9 ⟨(gH rfl),λa k=>⟨(gH rfl),λl e=>⟨(gH rfl),λX U=>?_⟩⟩⟩;obtain⟨v,hv,hm⟩:=Bk (xs:=[V.ref a, .ref l]) (m:=2) c (by simp) (by decide);have n:=aq k (.tup [V.str "nat"]);have g:=aq e (.tup [V.str "none"]);have B:=aq U (.lst [V.ref a, .ref l]);have t:=n.trans (g.trans B);refine⟨_,rfl,_,_,rfl,rfl,(by show(0:Int)<2;decide),X,_,_,v,rfl,rfl,aZ.of aj,hv,?_⟩;simp only[zQ34,zQ16,or_false]at hm;rcases hm with rfl|rfl;·exact q _ _ ⟨Ey,left,t.x,t _ _ d,o,Int.le_refl _,mW Gw (by decide+kernel) (by decide+kernel) (by decide+kernel),R,by rw[k1];omega,km ((g.trans B) _ _ aj) (by decide+kernel) rfl⟩
  ·exact q _ _ ⟨.tup [.str "none"],left,t.x,t _ _ d,o,Int.le_refl _,mW (iS (w:="none") (s:="") (by decide+kernel) (by decide+kernel) (by rw[show(Str.ofString "").cps.toList=[]by decide+kernel];rfl)) (by decide+kernel) (by decide+kernel) (by decide+kernel),S,by rw[k2];omega,km (B _ _ aj) (by decide+kernel) rfl⟩
 have I:¬(Str.ofString "t"=Str.ofString "k"):=by decide+kernel
 rw[decide_eq_false I];rw[decide_eq_false I]at q;refine cS ⟨_,rfl,_,_,rfl,rfl,(by show(0:Int)<4;decide),rfl,_,rfl,bD (λ_=>?_) (λ_=>?_)⟩
 ·have N:=Int.emod_nonneg (c/4) (show(31:Int)≠0 by decide);have Y:=Int.emod_lt_of_pos (c/4) (show(0:Int)<31 by decide);refine⟨_,rfl,_,_,rfl,rfl,⟨by decide,by decide⟩,_,_,rfl,rfl,(by show(0:Int)<31;decide),_,rfl,p,_,_,_,rfl,rfl,aZ.of d,aF (j:=1) rfl,_,_,rfl,?_⟩;obtain⟨m,hm,hm1,hm2⟩:∃m:Nat,(if left<c/4%31 then left else c/4%31)=(m:Int)/\m<31/\(m:Int)<=left:=by
   by_cases h:left<c/4%31;·exact⟨left.toNat,by rw[if_pos h];omega,by omega,by omega⟩
   ·exact⟨(c/4%31).toNat,by rw[if_neg h];omega,by omega,by omega⟩
  show sZ 4 (V.int (if left<c/4%31 then left else c/4%31)) _ _ _;rw[hm];refine⟨_,rfl,p,_,_,_,rfl,rfl,aZ.of d,aF (j:=1) rfl,_,rfl,_,_,rfl,rfl,_,rfl,p,_,_,1,rfl,rfl,d,rfl,?_⟩;have L:bp p H (upd H p (.lst [V.int i, .int (left-(m:Int))])):=bp.upd _;have k:(upd H p (.lst [V.int i, .int (left-(m:Int))])) p=some (.lst [V.int i, .int (left-(m:Int))]):=aj;show(aI _ _) _ _ (upd H p (.lst [V.int i, .int (left-(m:Int))]));generalize upd H p (.lst [V.int i, .int (left-(m:Int))])=x at L k⊢;refine⟨(gH rfl),λa T=>?_⟩;have n:=aq T (.tup [V.str "zero"]);have J:Rep (upd x a (.tup [V.str "zero"])) (g_ 0) (.ref a):=km aj (by decide+kernel) rfl;generalize upd x a (.tup [V.str "zero"])=Z at n J⊢;refine⟨_,rfl,(m:Int),rfl,(by show-(2^62)<=((m:Nat):Int);omega),(by show((m:Nat):Int)<2^62;omega),?_⟩;rw[show(((m:Nat):Int)).toNat=m by omega];let O:Nat->L2.St->Hp->Prop:=(λj C H'=>∃(u:V)(kv:Option V),C=[some (.int c),some (.str "t"),some (.int (b:Nat)),some (.ref p),some (.int (m:Nat)),some u,kv]/\Rep H' (g_ j) u/\aN x H');refine d4 m O ?_ ?_ ?_;·exact⟨_,none,rfl,J,n⟩
  ·rintro j C F hj⟨u,kv,rfl,y,r⟩;refine⟨hj,?_⟩;rintro x' H4⟨rfl,rfl⟩;refine⟨_,rfl,(gH rfl),λl e=>?_⟩;have g:=aq e (.tup [V.str "next",u]);exact⟨.ref l,_,rfl,km aj (by decide+kernel) ⟨_,_,rfl,y.mono g,rfl⟩,r.trans g⟩
  ·rintro C F⟨u,kv,rfl,y,r⟩;refine⟨zQ04 _,_,rfl,?_⟩;exact q u F ⟨g_ m,left-m,L.trans r.x,r _ _ k,by omega,by omega,F_ m,by rw[s_];omega,by rw[tS];omega,y⟩
 refine⟨_,rfl,_,_,rfl,rfl,(by show(0:Int)<4;decide),rfl,_,rfl,bD (λ_=>?_) (λ_=>?_)⟩;·refine⟨(gH rfl),λa k=>?_⟩;obtain⟨v,hv,hm⟩:=Bk (xs:=six.map V.str) (m:=6) (c/4) (by simp[six]) (by decide);obtain⟨z,G,rfl⟩:=List.mem_map.mp hm;have n:=aq k (.lst (six.map V.str));refine⟨_,rfl,_,_,rfl,rfl,⟨by decide,by decide⟩,_,_,rfl,rfl,(by show(0:Int)<6;decide),a,_,_,_,rfl,rfl,aZ.of aj,hv,(gH rfl),λl e=>?_⟩;have g:=aq e (.tup [V.str "name", .str z]);have t:=n.trans g;have W:z.length<=1000:=of_decide_eq_true (List.all_eq_true.mp (show(six.all λz=>decide (z.length<=1000))=true by decide+kernel) z G);exact q _ _ ⟨.tup [.str "name", .str z],left,t.x,t _ _ d,o,Int.le_refl _,Jd G,by simp[depth,bq],by simp[aP,bh],km aj (by decide+kernel) ⟨_,_,rfl,⟨rfl,W⟩,rfl⟩⟩
 ·have N:=Int.emod_nonneg (c/4) (show(b:Int)+4≠0 by omega);have Y:=Int.emod_lt_of_pos (c/4) (show(0:Int)<(b:Int)+4 by omega);refine⟨_,rfl,_,_,rfl,rfl,⟨by decide,by decide⟩,_,rfl,_,_,rfl,rfl,_,_,rfl,rfl,(by show(0:Int)<(b:Int)+4;omega),(gH rfl),λl e=>?_⟩;have t:=aq e (.tup [V.str "var", .int (c/4%((b:Int)+4))]);exact q _ _ ⟨.tup [.str "var", .int (c/4%((b:Int)+4))],left,t.x,t _ _ d,o,Int.le_refl _,E9 N (by omega) (by omega),by simp[depth,bq],by simp[aP,bh],km aj (by decide+kernel) ⟨_,_,rfl,rfl,rfl⟩⟩
theorem U3{k:Bool}{d:D}(wf:dZ aY k d=true):UO d=k:=by obtain⟨x,ps,rfl⟩:=gm wf;obtain⟨_,_,e,_⟩:=bA wf;exact e
theorem B5:∀{ps:List D},(∀p,p∈ps->iU p=true)->yP ps=true|[],_=>rfl|a::l,h=>by show(iU a&&yP l)=true;rw[h a cT,B5 λp b=>h p (dB _ b)];rfl
theorem yw{b:Nat}{x:Str}{ps:List D}(f:x∈g7)(hl:ps.length=(sQ x).length)(j:∀i p,ps[i]?=some p->∃d:Str,(sQ x)[i]?=some d/\DF (decide (d="kind")) (b+fg x i) p):DF (gB x) b (.tup (.str x::ps)):=by
 have h:=List.all_eq_true.mp vP x f;simp only[bE]at h;obtain⟨h1,h2,h3,h4,h5,h6,a⟩:=h;have n:kG x=gB x:=by simpa using h5
 have nv:x≠"var":=λz=>by rw[z]at f;revert f;decide+kernel
 have k:x≠"name":=λz=>by rw[z]at f;revert f;decide+kernel
 have wf:dZ aY (gB x) (.tup (.str x::ps))=true:=by cases es:dv x with|str s=>rw[es]at a;rw[bE]at a;refine iS es n (Gz (x:=x) _ _ _ (of_decide_eq_true a.1) (λc hc=>of_decide_eq_true (List.all_eq_true.mp a.2 c hc)) hl λi p e=>?_);obtain⟨d,l,g⟩:=j i p e;exact⟨d,l,U3 g.wf,g.wf⟩|_=>rw[es]at a;cases a
 have m:ao x ps=ps:=by unfold ao;rw[if_neg (by unfold d8;simp[nv,k])]
 refine BD wf ?_ nv k λi p e=>?_
 ·show((PyData.str x).canLay0&&yP ps)=true;rw[h6,B5 λp o=>?_];·rfl
  ·obtain⟨i,hi⟩:=List.getElem?_of_mem o;obtain⟨_,_,g⟩:=j i p hi;exact g.cm
 ·rw[m]at e;obtain⟨d,_,g⟩:=j i p e;exact⟨_,g⟩
structure ThT(p:Addr)(k:Bool)(b n i:Nat)(left:Int)(H:Hp)(v:V)(H':Hp):Prop where
 ex:∃(d:D)(i' f:Nat)(gV:Int),bp p H H'/\H' p=some (.lst [.int (i':Nat), .int gV])/\0<=gV/\gV<=left/\i+1<=i'/\i'<=i+1+4*f/\i+f<=i'/\(f=0\/i+f<=63)/\DF k b d/\depth d<=31+n/\((aP d:Nat):Int)+(i:Int)<=(i':Int)+(left-gV)/\Rep H' d v
def IG(K:PySem.W.Frag)(n:Nat):Sp:=λvs H Q _=>∃(a p:Addr)(ns:List Int)(want:Str)(m i b:Nat)(left:Int),vs=[.ref a, .ref p, .str want, .int (m:Nat), .int (b:Nat)]/\m<n/\(∀H',bp p H H'->aZ K H' a (ns.map V.int))/\H p=some (.lst [.int (i:Nat), .int left])/\i<=300/\0<=left/\left<=200/\b+m<=50/\(want="k"\/want="t")/\∀(v:V)(H':Hp),ThT p (decide (want="k")) b m i left H v H'->Q v H'
noncomputable def ky:List Str:=["fun","app","next","rec","like","carry","never","pair","first","second"]
noncomputable def uR:List Str:=["all","some","same"]
theorem A8:∀y∈ky,y∈g7/\gB y=false:=λy a=>by have :=List.all_eq_true.mp (show(ky.all λy=>decide (y∈g7)&&!gB y)=true by decide+kernel) y a;simpa using this
theorem zI:∀y∈uR,y∈g7/\gB y=true:=λy a=>by have :=List.all_eq_true.mp (show(uR.all λy=>decide (y∈g7)&&gB y)=true by decide+kernel) y a;simpa using this
theorem bW:aT ["_law_script","_law_state","_law_want","_law_deep","_law_over","_law_cell","_law_forms","_law_word","_law_kids","_law_k","_law_under"] ["_law_script","_law_state","_law_want","_law_deep","_law_over"] (aw dU):=⟨rfl,rfl,rfl,by decide+kernel,rfl,by decide+kernel,by decide+kernel⟩
theorem wa{n:Nat}(D:Df K mg "_law_thing" dU ["_law_script","_law_state","_law_want","_law_deep","_law_over"])(M:Mg mg t)(bx:bB P w K mg bJ "_law_cell_at" (1) ["_law_script","_law_k"] (qC K))(gw:bB P w K mg bJ "_law_leaf" (131) ["_law_cell","_law_want","_law_over","_law_state"] Jh)(a_:bB P w K mg bJ "_law_bound" (1) ["_law_word"] qJ)(dP:bB P w K mg bJ "_law_shape" (1) ["_law_word"] Ht)(g6:bB P w K mg bJ "_law_thing" (n+132) ["_law_script","_law_state","_law_want","_law_deep","_law_over"] (IG K n)):bB P w K mg bJ "_law_thing" (n+133) ["_law_script","_law_state","_law_want","_law_deep","_law_over"] (IG K (n+1)):=by
 refine D.ok bW (λvs H Q E h=>?_) (λbase f dh A outer s H vs Q E hr h=>?_);·obtain⟨a,p,ns,want,m,i,b,left,rfl,_⟩:=h;rfl
 obtain⟨a,p,ns,want,m,i,b,left,rfl,Ww,hS,hp,hi,l0,l1,hbm,hw,q⟩:=h;refine⟨_,(af (aE (i:=5) bW.nd rfl (cI rfl) (aS bx hr.m rfl aX (aa (pv 0) (aa (aH bH (pv 1) ah (λ_ _=>rfl)) ag)))) (af (E6 (aG cq (aH bH (pv 1) ah (λ_ _=>rfl)) ah) (Gd (pv 1) ah set_list)) (af (aU (L2.PW.pt (e_ (av bc (pv 3) ah (ay _)) (e_ (av bc (aG cQ (pv 5) ah) ah (ay _)) (eY (av Nb (aH bH (pv 1) ah (λ_ _=>rfl)) ah (ay _)))))) (ai (az (aS gw hr.m rfl aX (aa (aG dI (pv 5) ah) (aa (pv 2) (aa (pv 4) (aa (pv 1) ag))))))) aB) (af (aE (i:=6) bW.nd rfl (cI rfl) (bw (aa ak (aa ak (aa ak (aa ak (aa ak (aa ak (aa ak (aa ak (aa ak (aa ak ag)))))))))))) (af (aU (av bc (pv 2) ak (ay _)) (ai (aE (i:=6) bW.nd rfl (cI rfl) (bw (aa ak (aa ak (aa ak ag)))))) aB) (af (aE (i:=7) bW.nd rfl (cI rfl) (aH bH (pv 6) (aG cQ (aG dI (pv 5) ah) (aL aV rfl M.dy cz (aa (pv 6) ag))) (λ_ _=>rfl))) (af (aE (i:=8) bW.nd rfl (cI rfl) (bw ag)) (af (dC PassesOwn.never rfl (fR rfl M.fI (aa (aL eE rfl M.dy cz (aa (aS dP hr.m rfl aX (aa (pv 7) ag)) ag)) ag)) (bu (i:=9) bW.nd rfl (cI rfl)) (af (aE (i:=10) bW.nd rfl (cI rfl) (aG cq (pv 4) (cf kr rfl M.Fz yN (aa (gd bc (pv 9) (aS a_ hr.m rfl aX (aa (pv 7) ag)) (ay _)) ag)))) (ai (cA (fW PySem.F.plainAttrs_list PySem.F.slot_list_append PySem.F.type_list_append cJ (pv 8) (aa (aS g6 hr.m rfl aX (aa (pv 0) (aa (pv 1) (aa (aH ug (aS dP hr.m rfl aX (aa (pv 7) ag)) (pv 9) (λ_ _=>rfl)) (aa (aG iR (pv 3) ah) (aa (pv 10) ag)))))) ag)))))) (ai (az (aG IH (d3 (aa (pv 7) ag)) (cf sm rfl M.u7 qv (aa (pv 8) ag))))))))))))),?_⟩;try dsimp only[lB,d5]
 refine Vu ?_;intro _ _ _ _ _ _ _ _ _;rename_i O v9 v8 v7 v6 v5 v4 v3 v2;refine⟨_,rfl,_,rfl,p,_,_,_,rfl,rfl,aZ.of hp,aF (j:=0) rfl,a,ns,i,rfl,hS H (λb o _ h=>h),?_⟩;generalize da ns i=c;refine⟨_,rfl,p,_,_,_,rfl,rfl,aZ.of hp,aF (j:=0) rfl,_,_,rfl,rfl,_,rfl,p,_,_,0,rfl,rfl,hp,rfl,?_⟩;show v3 O [some (.ref a),some (.ref p),some (.str want),some (.int (m:Nat)),some (.int (b:Nat)),some (.int c),none,none,none,none,none] (upd H p (.lst [V.int ((i+1:Nat):Int), .int left]));have Yd:bp p H (upd H p (.lst [V.int ((i+1:Nat):Int), .int left])):=bp.upd _;have I:(upd H p (.lst [V.int ((i+1:Nat):Int), .int left])) p=some (.lst [V.int ((i+1:Nat):Int), .int left]):=aj;generalize upd H p (.lst [V.int ((i+1:Nat):Int), .int left])=R at Yd I⊢;have lfq:∀(r:V)(H':Hp),LfT p (decide (want="k")) b ((i+1:Nat):Int) left R r H'->Q r H':=λr H' o=>by obtain⟨d,gV,o1,X,o3,o4,o5,o6,o7,o8⟩:=o.ex;exact q r H' ⟨d,i+1,0,gV,Yd.trans o1,X,o3,o4,by omega,by omega,by omega, .inl rfl,o5,by omega,by omega,o8⟩
 have leaf:Vv (LX Jh [] E0 (d9 (JO (rI Sw λi j=>V.int (i/j)) (mq 5) (tC (V.int 4))) (d9 (mq 2) (d9 (mq 4) (d9 (mq 1) sO))))) {nx:=v4 O,rt:=O.rt} [some (.ref a),some (.ref p),some (.str want),some (.int (m:Nat)),some (.int (b:Nat)),some (.int c),none,none,none,none,none] R:=⟨_,rfl,_,_,rfl,rfl,⟨by decide,by decide⟩,_,rfl,_,rfl,_,rfl,c/4,want,b,p,_,left,rfl,I,l0,l1,by omega,hw,lfq⟩;refine⟨_,rfl,rfl,_,rfl,bD (λ_=>b9 leaf) (λc1=>?_)⟩;refine⟨_,rfl,_,_,rfl,rfl,(by show(0:Int)<4;decide),rfl,_,rfl,bD (λ_=>b9 leaf) (λc2=>?_)⟩;refine⟨_,rfl,p,_,_,_,rfl,rfl,aZ.of I,aF (j:=0) rfl,_,_,rfl,rfl,_,rfl,bD (λ_=>leaf) (λc3=>?_)⟩;have hm0:m≠0:=λe=>c1 (decide_eq_true (by rw[e];rfl));have aaj:i+1<=63:=by have c3:¬(63:Int)<((i+1:Nat):Int):=of_decide_eq_false (Bool.eq_false_iff.mpr c3);omega
 clear leaf lfq c1 c2 c3;have rest:∀(F:Addr)(g:List Str)(B:Hp),aN R B->B F=some (.lst (g.map V.str))->0<g.length->g.length<=100->(∀y∈g,y∈g7/\gB y=decide (want="k"))->v6 O [some (.ref a),some (.ref p),some (.str want),some (.int (m:Nat)),some (.int (b:Nat)),some (.int c),some (.ref F),none,none,none,none] B:=by
  intro F g B s2 OI WB Il Z4;have f0:=Int.emod_nonneg (c/4) (show((g.length:Nat):Int)≠0 by omega);have f1:=Int.emod_lt_of_pos (c/4) (show(0:Int)<((g.length:Nat):Int)by omega);obtain⟨C,hki⟩:∃C:Nat,c/4%((g.length:Nat):Int)=(C:Int):=⟨(c/4%((g.length:Nat):Int)).toNat,by omega⟩;have RO:C<g.length:=by omega
  have Y7:(g.map V.str).length=g.length:=br _;refine⟨_,rfl,_,rfl,_,_,rfl,rfl,⟨by decide,by decide⟩,_,rfl,F,_,rfl, .inl (aZ.of OI),_,_,rfl,rfl,(by show(0:Int)<(((g.map V.str).length:Nat):Int);rw[Y7];omega),F,_,_, .str g[C],rfl,rfl,aZ.of OI,(by rw[Y7,hki];exact aF (by rw[fi,zQ03 RO];rfl)),?_⟩;obtain⟨J,hxk⟩:=Z4 g[C] (List.getElem_mem RO);generalize g[C]=x at J hxk⊢;clear f0 f1 hki RO Y7 Z4 WB Il;have VI:=List.all_eq_true.mp yL x J;simp only[bE]at VI;obtain⟨⟨S,g2⟩,g3,g4,g5⟩:=VI;have S:=of_decide_eq_true S;have g5:=of_decide_eq_true g5;have hfo:=List.all_eq_true.mp vP x J;simp only[bE]at hfo;obtain⟨o1,X,o3,o4,_⟩:=hfo;have X:=of_decide_eq_true X;refine⟨(gH rfl),λpg X3=>?_⟩;have t5:=aq X3 (.lst []);have h5:(upd B pg (.lst [])) pg=some (.lst []):=aj;have Zg:pg≠p:=(aC (s2 _ _ I) X3).symm;have Vg:=Yd.trans s2.x;have Zh:H pg=none:=by cases e:H pg with|none=>rfl|some o=>have :=Vg _ _ Zg e;rw[X3]at this;cases this
  generalize upd B pg (.lst [])=H5 at t5 h5⊢;have hdl:(sQ x).length=(gG x).length:=by rw[S,br];rfl
  refine⟨_,rfl,x,rfl,_,rfl,big (by omega),(((gG x).length:Nat):Int),rfl,(by show-(2^62)<=(((gG x).length:Nat):Int);omega),(by show(((gG x).length:Nat):Int)<2^62;omega),?_⟩;rw[show((((gG x).length:Nat):Int)).toNat=(gG x).length by omega];let QT:Nat->L2.St->Hp->Prop:=(λj bg H'=>∃(ps:List KM.D)(us:List V)(k u:Nat)(l:Int)(kv uv:Option V),bg=[some (.ref a),some (.ref p),some (.str want),some (.int (m:Nat)),some (.int (b:Nat)),some (.int c),some (.ref F),some (.str x),some (.ref pg),kv,uv]/\H' pg=some (.lst us)/\cv H' ps us/\ps.length=j/\(∀i p,ps[i]?=some p->∃dd:Str,(sQ x)[i]?=some dd/\DF (decide (dd="kind")) (b+fg x i) p)/\H' p=some (.lst [.int (k:Nat), .int l])/\0<=l/\l<=left/\bp p H H'/\i+1<=k/\k<=i+1+j+4*u/\i+1+u<=k/\i+1+u<=63/\bq ps<=31+(m-1)/\((bh ps:Nat):Int)+((i+1:Nat):Int)<=(k:Int)+(left-l));refine d4 (gG x).length QT ?_ ?_ ?_;·refine⟨[],[],i+1,0,left,none,none,rfl,h5,rfl,rfl,λi p e=>by simp at e,t5 _ _ (s2 _ _ I),l0,Int.le_refl _,Vg.trans t5.x,zQ04 _,by omega,by omega,by omega,by simp[bq],?_⟩;simp[bh]
  ·rintro j bg Z hj⟨ps,us,k,u,l,kv,uv,rfl,U,N,i5,i6,W,i8,i9,T,i12,i13,i14,i15,i17,i18⟩;refine⟨hj,?_⟩;rintro x' RV⟨rfl,rfl⟩;have e0:(0:Int)+(j:Int)=((j:Nat):Int):=by omega
   rw[e0];have hjd:j<(sQ x).length:=by omega
   have hcl:(gG x).cps.toList.length=(gG x).length:=rfl;obtain⟨ch,yz⟩:∃ch,(gG x).cps.toList[j]?=some ch:=⟨_,zQ03 (by rw[hcl];exact hj)⟩;have hdd:(sQ x)[j]?=some (if ch=107 then Str.ofString "kind"else"term"):=by rw[S,fi,yz];rfl
   have Qh:ch=107\/ch=116:=of_decide_eq_true (List.all_eq_true.mp g2 ch (rW yz));have hwk:((⟨#[ch]⟩:Str)="k"\/(⟨#[ch]⟩:Str)="t")/\decide ((⟨#[ch]⟩:Str)="k")=decide ((if ch=107 then Str.ofString "kind"else"term")="kind"):=by
    rcases Qh with rfl|rfl;·exact⟨.inl (by decide+kernel),by decide+kernel⟩
    ·exact⟨.inr (by decide+kernel),by decide+kernel⟩
   have IK:=FK J j;rw[xq]at IK;have CT:=uA x j;refine⟨_,rfl,_,rfl,_,rfl,x,rfl,rfl, .inr ⟨_,rfl,_,_,rfl,rfl,?_⟩⟩;have eb:((b:Nat):Int)+(if decide (V.int ((j:Nat):Int)=V.int (iX x))=true then 1 else 0)=((b+fg x j:Nat):Int):=by
    by_cases e:((j:Nat):Int)=iX x;·rw[if_pos e]at IK;rw[if_pos (by rw[e];exact decide_eq_true rfl)];omega
    ·rw[if_neg e]at IK;rw[if_neg λh=>e (by have :=of_decide_eq_true h;injection this)];omega
   refine⟨_,rfl, .inl ⟨rfl,_,aZ.of U⟩,_,rfl,_,rfl,_,rfl,x,rfl,_,rfl,gG x,_,_,rfl,rfl,big (by omega),aF yz,_,rfl,_,_,rfl,rfl,_,rfl,a,p,ns,⟨#[ch]⟩,m-1,k,b+fg x j,l,?_,by omega,λH' s=>hS H' (T.trans s),W,by omega,i8,by omega,by omega,hwk.1,λr G o=>?_⟩;·show[V.ref a,V.ref p,V.str ⟨#[ch]⟩,V.int ((m:Int)-1),V.int (((b:Nat):Int)+(if decide (V.int ((j:Nat):Int)=V.int (iX x))=true then 1 else 0))]=_;rw[eb,show(m:Int)-1=((m-1:Nat):Int)by omega]
   obtain⟨d,i',f',lf,y1,y2,y3,y4,y5,y6,y7,y8,y9,y11,y12,y15⟩:=o.ex;have Xi:∀vs,RV p≠some (.tup vs):=λvs z=>by rw[W]at z;cases z
   have M5:=y1 _ _ Zg U;have Sr:us.length<=4:=by have :=N.length;omega
   have ntg:∀vs,G pg≠some (.tup vs):=λvs z=>by rw[M5]at z;cases z
   refine⟨pg,_,_,rfl,rfl,M5,Nat.lt_of_le_of_lt Sr (by decide),?_⟩;have Y:bp pg G (upd G pg (.lst (us++[r]))):=bp.upd _;have QN:(upd G pg (.lst (us++[r]))) pg=some (.lst (us++[r])):=aj;generalize upd G pg (.lst (us++[r]))=H13 at Y QN⊢;have rps:cv H13 (ps++[d]) (us++[r]):=((N.fH y1 Xi).snoc y15).fH Y ntg;refine⟨ps++[d],us++[r],i',u+f',lf,_,_,rfl,QN,rps,by rw[cE,i5];rfl,λe p' v=>?_,Y _ _ Zg.symm y2,y3,by omega,λb o hb h=>Y _ _ (aC h Zh) (y1 _ _ hb (T _ _ hb h)),by omega,by omega,by omega,?_,?_,?_⟩
   ·by_cases he:e<ps.length;·rw[List.getElem?_append_left he]at v;exact i6 e p' v
    ·rw[List.getElem?_append_right (by omega)]at v;have h0:e-ps.length=0:=by cases h:e-ps.length with|zero=>rfl|succ n=>rw[h]at v;simp at v
     rw[h0]at v;cases v;have hej:e=j:=by omega
     subst hej;exact⟨_,hdd,by rw[<-hwk.2];exact y9⟩
   ·rcases y8 with y8|y8<;>omega
   ·rw[g8];exact Nat.max_le.mpr ⟨i17,y11⟩
   ·rw[gW];omega
  ·rintro bg Z⟨ps,us,k,u,l,kv,uv,rfl,U,N,i5,i6,W,i8,i9,T,i12,i13,i14,i15,i17,i18⟩;refine⟨zQ04 _,?_⟩;have Sr:us.length<=4:=by have :=N.length;omega
   refine⟨_,rfl,(gH rfl),λq1 D4=>?_⟩;have u1:=aq D4 (.tup [V.str x]);have SF:(upd Z q1 (.tup [V.str x])) q1=some (.tup [V.str x]):=aj;generalize upd Z q1 (.tup [V.str x])=K1 at u1 SF⊢;refine⟨_,rfl,pg,_,rfl, .inl ⟨aZ.of (u1 _ _ U),λq2 hq2=>?_⟩⟩;have u2:=aq hq2 (.tup us);refine⟨q1,q2,[.str x],us,rfl,rfl,u2 _ _ SF,aj,big (by rw[List.length_singleton];omega),λq3 K3 u3 hq3=>?_⟩;have Xg:=u1.trans (u2.trans u3);have hG:=yw (b:=b) J (by omega) i6;rw[hxk]at hG;refine q _ _ ⟨.tup (.str x::ps),k,1+u,l,T.trans Xg.x,Xg _ _ W,i8,i9,i12,by omega,by omega, .inr (by omega),hG,?_,?_,⟨q3,_,rfl,hq3,_,_,rfl,⟨rfl,by omega⟩,N.mono Xg⟩⟩;·simp only[depth,bq];omega
   ·simp only[aP,bh];omega
 refine⟨(gH rfl),λp2 j5=>?_⟩;have t2:=aq j5 (.lst (ky.map V.str));have h2:(upd R p2 (.lst (ky.map V.str))) p2=some (.lst (ky.map V.str)):=aj;refine⟨_,rfl,rfl,_,rfl,?_⟩;rw[sd];rcases hw with rfl|rfl;·rw[decide_eq_true rfl];refine b9 ⟨(gH rfl),λp3 uP=>?_⟩;have t3:=aq uP (.lst (uR.map V.str));exact rest p3 uR _ (t2.trans t3) aj (by decide) (by decide) λy L=>⟨(zI y L).1,by rw[(zI y L).2,decide_eq_true rfl]⟩
 ·have nk:¬(Str.ofString "t"=Str.ofString "k"):=by decide+kernel
  rw[decide_eq_false nk];exact cS (rest p2 ky _ t2 h2 (by decide) (by decide) λy L=>⟨(A8 y L).1,by rw[(A8 y L).2,decide_eq_false nk]⟩)
theorem kL(D:Df K mg "_law_thing" dU ["_law_script","_law_state","_law_want","_law_deep","_law_over"])(M:Mg mg t)(b:bB P w K mg bJ "_law_cell_at" (1) ["_law_script","_law_k"] (qC K))(c:bB P w K mg bJ "_law_leaf" (131) ["_law_cell","_law_want","_law_over","_law_state"] Jh)(a:bB P w K mg bJ "_law_bound" (1) ["_law_word"] qJ)(d:bB P w K mg bJ "_law_shape" (1) ["_law_word"] Ht):∀n:Nat,bB P w K mg bJ "_law_thing" (n+132) ["_law_script","_law_state","_law_want","_law_deep","_law_over"] (IG K n)|0=>bB.never D λvs H Q E⟨_,_,_,_,_,_,_,_,_,h,_⟩=>absurd h (Nat.not_lt_zero _)|n+1=>wa D M b c a d (kL D M b c a d n)
noncomputable def dX(F a:List Str):List Str:=a.foldl (λF z=>if z∈F then F else F++[z]) F
theorem Hw(F a b:List Str):dX F (a++b)=dX (dX F a) b:=List.foldl_append
theorem xF:∀(a F:List Str),(dX F a).length<=F.length+a.length
 |[],F=>zQ04 _
 |z::a,F=>by
  have h:=xF a (if z∈F then F else F++[z]);have e:dX F (z::a)=dX (if z∈F then F else F++[z]) a:=rfl;rw[e,cU];split at h;·rename_i c;rw[if_pos c];omega
  ·rename_i c;rw[if_neg c];rw[cE,List.length_singleton]at h;omega
theorem jW:∀(a F:List Str)(y:Str),y∈dX F a↔y∈F\/y∈a
 |[],F,y=>by simp[dX]
 |z::a,F,y=>by
  have h:=jW a (if z∈F then F else F++[z]) y;have e:dX F (z::a)=dX (if z∈F then F else F++[z]) a:=rfl;rw[e,h,zQ34];split
  ·rename_i c;constructor
   ·rintro(h|h);·exact .inl h
    ·exact .inr (.inr h)
   ·rintro(h|rfl|h);·exact .inl h
    ·exact .inl c
    ·exact .inr h
  ·rw[List.mem_append,List.mem_singleton,or_assoc]
theorem CG{k:Bool}{n:Nat}{x:Str}{ps:List D}(wf:dZ aY k (.tup (.str x::ps))=true):(x="name"->yZ n ps ps.length=[])/\(x≠"name"->yZ n ps ps.length=bf (n+1) (.tup (.str x::ps))):=by
 constructor
 ·intro f;unfold yZ;rw[List.flatten_eq_nil_iff];intro l hl;obtain⟨i,hi,rfl⟩:=List.mem_map.mp hl;have hi:=List.mem_range.mp hi;obtain⟨p,b⟩:∃p,ps[i]?=some p:=⟨_,zQ03 hi⟩;rw[b,Option.getD_some];rcases rK wf b with⟨c,a⟩|⟨c,a⟩;·subst f;obtain⟨z,rfl⟩:=eJ wf;unfold ao at a;rw[if_pos (by decide+kernel)]at a;cases a
  ·exact GW c
 ·intro f;have :bf (n+1) (.tup (.str x::ps))=yZ n (ao x ps) (ao x ps).length:=by
   conv=>lhs;unfold bf
   rw[if_neg f];rfl
  rw[this];cases d:ps with
   |nil=>rw[show ao x []=[]by unfold ao;split<;>rfl]
   |cons h j=>
    rw[<-d];rcases rK wf (i:=0) (p:=h) (by rw[d];rfl)with⟨c,a⟩|⟨c,a⟩;·rw[a]
    ·rw[a];unfold yZ;rw[List.flatten_eq_nil_iff.mpr];·rfl
     intro l hl;obtain⟨i,hi,rfl⟩:=List.mem_map.mp hl;have hi:=List.mem_range.mp hi;obtain⟨p,b⟩:∃p,ps[i]?=some p:=⟨_,zQ03 hi⟩;rw[b,Option.getD_some];rcases rK wf b with⟨g,e⟩|⟨g,e⟩;·rw[a]at e;rw[<-e]at d;cases d
     ·exact GW g
def CO(n:Nat):Sp:=λvs H Q _=>∃(d:D)(v:V)(fd:Addr)(F:List Str),vs=[v, .ref fd]/\Rep H d v/\Wf d/\depth d<n/\H fd=some (.lst (F.map V.str))/\F.length+aP d<=100000/\∀H',bp fd H H'->H' fd=some (.lst ((dX F (bf n d)).map V.str))->Q (.ref fd) H'
theorem lV:aT ["_law_thing_here","_law_found","_law_k"] ["_law_thing_here","_law_found"] (aw eW):=⟨rfl,rfl,rfl,by decide+kernel,rfl,by decide+kernel,by decide+kernel⟩
theorem wB{n:Nat}(D:Df K mg "_law_kept" eW ["_law_thing_here","_law_found"])(M:Mg mg t)(Z:bB P w K mg bJ "_law_kept" (n+1) ["_law_thing_here","_law_found"] (CO n)):bB P w K mg bJ "_law_kept" (n+2) ["_law_thing_here","_law_found"] (CO (n+1)):=by
 refine D.ok lV (λvs H Q E h=>?_) (λbase f dh A outer s H vs Q E hr h=>?_);·obtain⟨d,v,fd,F,rfl,_⟩:=h;rfl
 obtain⟨d,v,fd,F,rfl,r,ig,hd,g,Xd,q⟩:=h;refine⟨_,(af (aU (L2.PW.pt (qU (av bc (aH aM (pv 0) ah (λ_ _=>rfl)) ak (ay _)) (ju (av eh (aH aM (pv 0) ah (λ_ _=>rfl)) (pv 1) rfl)))) (ai (cA (fW PySem.F.plainAttrs_list PySem.F.slot_list_append PySem.F.type_list_append cJ (pv 1) (aa (aH aM (pv 0) ah (λ_ _=>rfl)) ag)))) aB) (af (dC PassesOwn.never rfl (j_ rfl M.fI (aa ah (aa (aL aV rfl M.dy cz (aa (pv 0) ag)) ag))) (bu (i:=2) lV.nd rfl (cI rfl)) (ai (aU (iK (aL fw rfl M.bX bK (aa (aH aM (pv 0) (pv 2) (λ_ _=>rfl)) (aa (xl M.u7 qv rfl) ag)))) (ai (cA (aS Z hr.m rfl aX (aa (aH aM (pv 0) (pv 2) (λ_ _=>rfl)) (aa (pv 1) ag))))) aB))) (ai (az (pv 1))))),?_⟩;try dsimp only[lB,d5]
 refine Vt ?_;intro _ _ _;rename_i Y v3 v2;obtain⟨x,ps,k,rfl,wf,zM⟩:=hV ig;obtain⟨a,wq,rfl,ha,v0,us,rfl,⟨rfl,hx⟩,C⟩:=id r;have Qz:=C.length;have ek:aP (.tup (.str x::ps))=1+bh ps:=by simp[aP,bh]
 have Xi:∀vs,H fd≠some (.tup vs):=λvs z=>by rw[g]at z;cases z
 have W:a≠fd:=λz=>by rw[z,g]at ha;cases ha
 have rest:∀(b:List Str)(e:Hp),bp fd H e->e fd=some (.lst (b.map V.str))->b.length<=F.length+1->(dX b (yZ n ps ps.length)=dX F (bf (n+1) (.tup (.str x::ps))))->v2 Y [some (.ref a),some (.ref fd),none] e:=by
  intro b e G T hl1 hF1;have S:=G _ _ W ha;have rp0:cv e ps us:=C.fH G Xi;have nt0:∀vs,e fd≠some (.tup vs):=λvs z=>by rw[T]at z;cases z
  have big:-(2^62:Int)<=(((V.str x::us).length:Nat):Int)/\(((V.str x::us).length:Nat):Int)<2^62:=by rw[cU];omega
  refine⟨_,rfl,a,_,rfl, .inr (cN.of S),1,_,rfl,⟨by decide,by decide,big.1,big.2⟩,?_⟩;rw[show((((V.str x::us).length:Nat):Int)-1).toNat=us.length by rw[cU];omega];refine d4 us.length (λj I H'=>∃kv,I=[some (.ref a),some (.ref fd),kv]/\H' fd=some (.lst ((dX b (yZ n ps j)).map V.str))/\bp fd e H') ⟨none,rfl,T,λ_ _ _ h=>h⟩ ?_ ?_
  ·rintro i I H' hi⟨kv,rfl,y,l⟩;refine⟨hi,?_⟩;rintro x' H3⟨rfl,rfl⟩;obtain⟨p,m⟩:∃p,ps[i]?=some p:=⟨_,zQ03 (by omega)⟩;obtain⟨u,hu,ru⟩:=rp0.get m;have X:Rep H3 p u:=Rep.fH l nt0 ru;have R:=l _ _ W S;have e0:(1:Int)+(i:Int)=((i+1:Nat):Int):=by omega
   have O:gP (V.str x::us) (1+(i:Int))=some u:=by rw[e0];exact aF (j:=i+1) hu
   refine⟨_,rfl,_,rfl,a,_,_,_,rfl,rfl,cN.of R,O,_,_,_,_,rfl,X.ty,BZ _ p,_,rfl,?_⟩;have B:yZ n ps (i+1)=yZ n ps i++bf n p:=by unfold yZ;rw[mV,m,Option.getD_some]
   rw[B,Hw];rcases rK wf m with⟨o,J⟩|⟨o,J⟩;·rw[o];obtain⟨w1,w2⟩:=c6 wf (i:=i) (p:=p) (by rw[J];exact m);have l1:=vO (n:=n) (ps:=ps) (λp _=>uN n p) i (by omega);have l2:=(Bw m).1;have l3:=RR (ps:=ps) (i+1);have l4:=xF (yZ n ps i) b;exact b9 ⟨_,rfl,_,rfl,a,_,_,_,rfl,rfl,cN.of R,O,_,rfl,p,u,fd,dX b (yZ n ps i),rfl,X,w1,by omega,y,by omega,λH4 s4 h4=>⟨_,rfl,h4,l.trans s4⟩⟩
   ·rw[o,GW o];exact cS ⟨_,rfl,y,l⟩
  ·rintro I H'⟨kv,rfl,y,l⟩;refine⟨zQ04 _,_,rfl,q H' (G.trans l) ?_⟩;rw[y,Qz,hF1]
 have B:gP (V.str x::us) 0=some (.str x):=aF (j:=0) rfl;obtain⟨U,n2⟩:=CG (n:=n) wf;refine⟨_,rfl,a,_,_,_,rfl,rfl,cN.of ha,B,rfl,_,rfl,?_⟩;refine bD (λc=>?_) (λc=>?_)
 ·have c:V.str x=V.str "name":=of_decide_eq_true c;cases c;obtain⟨z,rfl⟩:=eJ wf;obtain⟨u1,Ih,rfl,⟨r1,_⟩,_⟩:=C;subst r1;have L:gP (V.str "name"::V.str z::Ih) 1=some (.str z):=aF (j:=1) rfl;have N:bf (n+1) (.tup [.str "name", .str z])=[z]:=by unfold bf;rw[if_pos rfl]
  refine⟨_,rfl,a,_,_, .str z,rfl,rfl,cN.of ha,L,_,rfl,fd,_,rfl, .inl (aZ.of g),rfl,?_,_,rfl,?_⟩;·rw[List.all_map];exact List.all_eq_true.mpr λ_ _=>rfl
  show if(!Ja (.str z) (F.map V.str))=true then _ else _;rw[gR];by_cases c:z∈F;·rw[decide_eq_true c];refine cS (rest F H (λ_ _ _ h=>h) g (by omega) ?_);rw[U rfl,N];show F=if z∈F then F else F++[z];rw[if_pos c]
  ·rw[decide_eq_false c];refine b9 ⟨_,rfl, .inl ⟨rfl,_,aZ.of g⟩,_,rfl,a,_,_, .str z,rfl,rfl,cN.of ha,L,fd,_,_,rfl,rfl,g,?_,?_⟩;·rw[br,show sizeLine=16777216 by decide];omega
   refine rest (F++[z]) _ (bp.upd _) ?_ ?_ ?_;·rw[aj,cO];rfl
   ·rw[cE];exact zQ04 _
   ·rw[U rfl,N];show F++[z]=if z∈F then F else F++[z];rw[if_neg c]
 ·have hn:x≠"name":=λz=>c (by rw[z];exact decide_eq_true rfl);exact rest F H (λ_ _ _ h=>h) g (by omega) (by rw[n2 hn])
theorem rG(D:Df K mg "_law_kept" eW ["_law_thing_here","_law_found"])(M:Mg mg t):∀n:Nat,bB P w K mg bJ "_law_kept" (n+1) ["_law_thing_here","_law_found"] (CO n)|0=>bB.never D λvs H Q E⟨d,v,_,_,_,_,_,h,_⟩=>absurd h (Nat.not_lt_zero _)|n+1=>wB D M (rG D M n)
noncomputable def lL(i:Nat):Str:=⟨#[97+i]⟩
noncomputable def gh:Str:="abcdefghijklmnopqrstuvwxyz"
theorem rZ:∀i:Nat,i<26->gh.cps[i]?=some (97+i):=by decide+kernel
theorem fA:gh.cps.size=26:=by decide+kernel
theorem FT:∀i:Nat,i<26->eA i=lL i:=by decide+kernel
theorem Cu:∀i:Nat,i<26->∀j:Nat,j<26->eA (26+26*i+j)=lL i++lL j:=by decide+kernel
theorem wz{T:List Str}:∀{i:Nat},i<702->(∀j,j<i->eA j∈T)->eA i∉T->(fc T 702).headD Str.empty=eA i:=by
 intro i hi h1 h2;have e:fc T 702=((List.range i).map eA++eA i::((List.range' (i+1) (701-i)).map eA)).filter λz=>decide (z∉T):=by
  unfold fc;congr 1;rw[<-cF,<-cO];congr 1;rw[List.range_eq_range',List.range_eq_range',<-List.range'_succ];have :=List.range'_append (s:=0) (m:=i) (n:=702-i) (step:=1);rw[show 702=i+(702-i)by omega,<-this];congr 1;rw[show 701-i+1=i+(702-i)-i by omega];congr 1;·omega
  ·omega
 rw[e,List.filter_append,List.filter_eq_nil_iff.mpr (λz a=>by obtain⟨j,hj,rfl⟩:=List.mem_map.mp a;simp[h1 j (List.mem_range.mp hj)]),List.nil_append,List.filter_cons_of_pos (by simp[h2])];rfl
theorem HA{T:List Str}(h:∀j,j<702->eA j∈T):(fc T 702).headD Str.empty=Str.empty:=by
 have :fc T 702=[]:=by unfold fc;rw[List.filter_eq_nil_iff];intro z a;obtain⟨j,hj,rfl⟩:=List.mem_map.mp a;simp[h j (List.mem_range.mp hj)]
 rw[this];rfl
def OY:Sp:=λvs H Q _=>∃(tk:Addr)(T:List Str),vs=[.ref tk]/\H tk=some (.lst (T.map V.str))/\Q (.str ((fc T 702).headD Str.empty)) H
theorem dq:aT ["_law_taken","_law_some","_law_sign","_law_head"] ["_law_taken"] (aw fC):=⟨rfl,rfl,rfl,by decide+kernel,rfl,by decide+kernel,by decide+kernel⟩
theorem xY(D:Df K mg "_law_first" fC ["_law_taken"])(M:Mg mg t):bB P w K mg bJ "_law_first" (1) ["_law_taken"] OY:=by
 refine D.ok dq (λvs H Q E h=>?_) (λbase f dh A outer s H vs Q E hr h=>?_);·obtain⟨tk,T,rfl,_⟩:=h;rfl
 obtain⟨tk,T,rfl,hT,q⟩:=h;refine⟨_,(af (aE (i:=1) dq.nd rfl (cI rfl) ak) (af (dC PassesOwn.never rfl (kx (pv 1)) (bu (i:=2) dq.nd rfl (cI rfl)) (ai (aU (av eh (pv 2) (pv 0) rfl) (ai (az (pv 2))) aB))) (af (dC PassesOwn.never rfl (kx (pv 1)) (bu (i:=3) dq.nd rfl (cI rfl)) (ai (dC PassesOwn.never rfl (kx (pv 1)) (bu (i:=2) dq.nd rfl (cI rfl)) (ai (aU (av eh (aG c_ (pv 3) (pv 2)) (pv 0) rfl) (ai (az (aG c_ (pv 3) (pv 2)))) aB))))) (ai (az ak))))),?_⟩;try dsimp only[lB,v]
 refine rJ ?_;intro _ _ _ _;rename_i r z y x;have all:(T.map V.str).all gD=true:=by rw[List.all_map];exact List.all_eq_true.mpr λ_ _=>rfl
 refine⟨_,rfl,gh,rfl,d4 26 (λi b H'=>∃a,b=[some (.ref tk),some (.str gh),a,none]/\H'=H/\∀j,j<i->eA j∈T) ⟨none,rfl,rfl,λj hj=>absurd hj (Nat.not_lt_zero _)⟩ ?_ ?_⟩
 ·rintro i b H' hi⟨a,rfl,rfl,d⟩;refine⟨by show i<gh.cps.size;rw[fA];exact hi,?_⟩;rintro o n⟨rfl,ch,hc,rfl⟩;rw[rZ i hi]at hc;cases hc;refine⟨_,rfl,_,rfl,tk,_,rfl, .inl (aZ.of hT),rfl,all,_,rfl,?_⟩;show if(!Ja (.str (lL i)) (T.map V.str))=true then _ else _;rw[gR,<-FT i hi];by_cases c:eA i∈T
  ·rw[decide_eq_true c];refine cS ⟨_,rfl,rfl,λj hj=>?_⟩;by_cases e:j=i;·rw[e];exact c
   ·exact d j (by omega)
  ·rw[decide_eq_false c];rw[wz (by omega) d c,FT i hi]at q;exact b9 ⟨_,rfl,q⟩
 rintro b H'⟨a,rfl,rfl,d⟩;refine⟨by show gh.cps.size<=26;rw[fA];exact zQ04 _,?_⟩;refine⟨_,rfl,gh,rfl,d4 26 (λi b p=>∃a hv,b=[some (.ref tk),some (.str gh),a,hv]/\p=H'/\∀j,j<26+26*i->eA j∈T) ⟨a,none,rfl,rfl,d⟩ ?_ ?_⟩
 ·rintro i b H' hi⟨a,hv,rfl,rfl,m⟩;refine⟨by show i<gh.cps.size;rw[fA];exact hi,?_⟩;rintro o n⟨rfl,ch,hc,rfl⟩;rw[rZ i hi]at hc;cases hc;refine⟨_,rfl,gh,rfl,d4 26 (λk b H'=>∃a,b=[some (.ref tk),some (.str gh),a,some (.str (lL i))]/\H'=n/\∀j,j<26+26*i+k->eA j∈T) ⟨a,rfl,rfl,m⟩ ?_ ?_⟩
  ·rintro k b H' l⟨a,rfl,rfl,g⟩;refine⟨by show k<gh.cps.size;rw[fA];exact l,?_⟩;rintro o u⟨rfl,ch,hc,rfl⟩;rw[rZ k l]at hc;cases hc;refine⟨_,rfl,_,rfl,_,_,rfl,rfl,(by show 1+1<=sizeLine;decide),_,rfl,tk,_,rfl, .inl (aZ.of hT),rfl,all,_,rfl,?_⟩;show if(!Ja (.str (lL i++lL k)) (T.map V.str))=true then _ else _;rw[gR,<-Cu i hi k l];by_cases c:eA (26+26*i+k)∈T
   ·rw[decide_eq_true c];refine cS ⟨_,rfl,rfl,λj hj=>?_⟩;by_cases e:j=26+26*i+k;·rw[e];exact c
    ·exact g j (by omega)
   ·rw[decide_eq_false c];rw[wz (by omega) g c,Cu i hi k l]at q;exact b9 ⟨_,rfl,_,rfl,_,_,rfl,rfl,(by show 1+1<=sizeLine;decide),q⟩
  ·rintro b H'⟨a,rfl,rfl,g⟩;exact⟨by show gh.cps.size<=26;rw[fA];exact zQ04 _,_,_,rfl,rfl,λj hj=>g j (by omega)⟩
 rintro b H'⟨a,hv,rfl,rfl,m⟩;refine⟨by show gh.cps.size<=26;rw[fA];exact zQ04 _,?_⟩;rw[HA λj hj=>m j (by omega)]at q;exact q
noncomputable def Fv(n:Nat)(d:D):Str:=match fL n d with|some m=>iA m|none=>""
def R6(n:Nat):Sp:=λvs H Q _=>∃(d:D)(v:V),vs=[v]/\Rep H d v/\Wf d/\depth d<n/\n<=900/\Q (.str (Fv n d)) H
theorem dw:aT ["_law_thing_here","_law_many"] ["_law_thing_here"] (aw dD):=⟨rfl,rfl,rfl,by decide+kernel,rfl,by decide+kernel,by decide+kernel⟩
theorem sV{n:Nat}(D:Df K mg "_law_figures" dD ["_law_thing_here"])(M:Mg mg t):bB P w K mg bJ "_law_figures" (1) ["_law_thing_here"] (R6 n):=by
 refine D.ok dw (λvs H Q E h=>?_) (λbase f dh A outer s H vs Q E hr h=>?_);·obtain⟨d,v,rfl,_⟩:=h;rfl
 obtain⟨d,v,rfl,r,W,hd,Y,q⟩:=h;refine⟨_,(af (aE (i:=1) dw.nd rfl (cI rfl) ah) (af (qP PassesOwn.never (av bc (aH aM (pv 0) ah (λ_ _=>rfl)) ak (ay _)) (af (aE (i:=0) dw.nd rfl (cI rfl) (aH aM (pv 0) ah (λ_ _=>rfl))) (ai (aE (i:=1) dw.nd rfl (cI rfl) (aG cq (pv 1) ah))))) (af (aU (av bc (aH aM (pv 0) ah (λ_ _=>rfl)) ak (ay _)) (ai (az (cf tN rfl M.Bf uy (aa (pv 1) ag)))) aB) (ai (az ak))))),?_⟩;try dsimp only[lB,X]
 refine rJ ?_;intro _ _ _ _;unfold Fv at q;refine⟨λm I H'=>H'=H/\∃(d':KM.D)(u:V)(c l:Nat),I=[some u,some (.int (c:Nat))]/\Rep H d' u/\Wf d'/\depth d'=m/\depth d'<l/\depth d'+c<=900/\fL n d=(fL l d').map (·+c),⟨depth d,rfl,d,v,0,n,rfl,r,W,rfl,hd,by omega,by cases fL n d<;>rfl⟩,?_⟩;rintro m I H'⟨rfl,d',u,c,l,rfl,O,U,em,Xq,Z,C⟩;obtain⟨x,ps,k,rfl,wf,zM⟩:=hV U;obtain⟨a,G,rfl,ha,v0,G,rfl,⟨rfl,hx⟩,S⟩:=id O;have B:gP (V.str x::G) 0=some (.str x):=aF (j:=0) rfl;obtain⟨b,rfl⟩:∃b,l=b+1:=⟨l-1,by omega⟩;refine⟨_,rfl,a,_,_,_,rfl,rfl,cN.of ha,B,rfl,_,rfl,?_⟩;refine bD (λe=>?_) (λe=>?_)
 ·have e:V.str x=V.str "next":=of_decide_eq_true e;cases e;obtain⟨p,rfl⟩:=pZ wf;obtain⟨o,Ih,rfl,R,_⟩:=S;have L:ao "next" [p]=[p]:=by unfold ao;rw[if_neg (by decide+kernel)]
  obtain⟨T,w2⟩:=c6 wf (i:=0) (p:=p) (by rw[L];rfl);have g:fL (b+1) (.tup [.str "next",p])=(fL b p).map (·+1):=by rw[fL,if_pos rfl]
  refine⟨λJ y=>y=H'/\J=[some o,some (.int ((c+1:Nat):Int))],?_,?_⟩;·rintro J y⟨rfl,rfl⟩;refine⟨depth p,by omega,rfl,p,o,c+1,b,rfl,R,T,rfl,by omega,by omega,?_⟩;rw[C,g,Option.map_map];congr 1;funext z;show z+1+c=z+(c+1);omega
  ·refine⟨_,rfl,a,_,_,_,rfl,rfl,cN.of ha,aF (j:=1) rfl,_,rfl,_,_,rfl,rfl,rfl,?_⟩;show[some o,some (.int ((c:Int)+1))]=_;rw[show(c:Int)+1=((c+1:Nat):Int)by omega]
 have F:x≠"next":=λz=>e (by rw[z];exact decide_eq_true rfl);rw[C]at q;refine⟨_,rfl,a,_,_,_,rfl,rfl,cN.of ha,B,rfl,_,rfl,?_⟩;refine bD (λe=>?_) (λe=>?_)
 ·have e:V.str x=V.str "zero":=of_decide_eq_true e;cases e;have g:fL (b+1) (.tup (.str "zero"::ps))=some 0:=by
   conv=>lhs;unfold fL
   rw[if_neg F,if_pos rfl]
  rw[g]at q;simp only[Option.map_some,Nat.zero_add]at q;exact⟨_,rfl,(c:Int),rfl,Ll (by omega),q⟩
 ·have N:x≠"zero":=λz=>e (by rw[z];exact decide_eq_true rfl);have g:fL (b+1) (.tup (.str x::ps))=none:=by
   conv=>lhs;unfold fL
   rw[if_neg F,if_neg N]
  rw[g]at q;exact q
noncomputable def tG(n:Nat)(A:List Str):D->Str| .tup (.str x::ps)=>if x="var"then(match ps with|[.int i]=>(A[i.toNat]?).getD ""|_=>"")else if x="name"then(match ps with|[.str z]=>z|_=>"")else if ps=[]/\x≠"zero"then x else Fv n (.tup (.str x::ps))|_=>""
def Qk(n:Nat):Sp:=λvs H Q _=>∃(d:D)(v:V)(sc:Addr)(A:List Str),vs=[v, .ref sc]/\Rep H d v/\Wf d/\depth d<n/\n<=900/\H sc=some (.lst (A.map V.str))/\iz n A.length d/\Q (.str (tG n A d)) H
theorem vj:aT ["_law_thing_here","_law_scope"] ["_law_thing_here","_law_scope"] (aw fz):=⟨rfl,rfl,rfl,by decide+kernel,rfl,by decide+kernel,by decide+kernel⟩
theorem xZ{n:Nat}(D:Df K mg "_law_alone" fz ["_law_thing_here","_law_scope"])(M:Mg mg t)(L:bB P w K mg bJ "_law_figures" (1) ["_law_thing_here"] (R6 n)):bB P w K mg bJ "_law_alone" (2) ["_law_thing_here","_law_scope"] (Qk n):=by
 refine D.ok vj (λvs H Q E h=>?_) (λbase f dh A outer s H vs Q E hr h=>?_);·obtain⟨d,v,sc,A,rfl,_⟩:=h;rfl
 obtain⟨d,v,sc,A,rfl,r,I,hd,N,R,hcl,q⟩:=h;refine⟨_,(af (aU (av bc (aH aM (pv 0) ah (λ_ _=>rfl)) ak (ay _)) (ai (az (aH bH (pv 1) (aH aM (pv 0) ah (λ_ _=>rfl)) (λ_ _=>rfl)))) aB) (af (aU (av bc (aH aM (pv 0) ah (λ_ _=>rfl)) ak (ay _)) (ai (az (aH aM (pv 0) ah (λ_ _=>rfl)))) aB) (af (aU (L2.PW.pt (qU (av bc (aL aV rfl M.dy cz (aa (pv 0) ag)) ah (ay _)) (ju (av lR (aH aM (pv 0) ah (λ_ _=>rfl)) ak (ay _))))) (ai (az (aH aM (pv 0) ah (λ_ _=>rfl)))) aB) (ai (az (aS L hr.m rfl aX (aa (pv 0) ag))))))),?_⟩;try dsimp only[lB,X]
 refine rJ ?_;intro _ _ _ _;rename_i J W v3 v2;obtain⟨x,ps,k,rfl,wf,Z⟩:=hV I;obtain⟨a,wq,rfl,ha,v0,us,rfl,⟨rfl,hx⟩,B⟩:=id r;have T:=B.length;have l:gP (V.str x::us) 0=some (.str x):=aF (j:=0) rfl;refine⟨_,rfl,a,_,_,_,rfl,rfl,cN.of ha,l,rfl,_,rfl,?_⟩;refine bD (λc=>?_) (λc=>?_)
 ·have c:V.str x=V.str "var":=of_decide_eq_true c;cases c;obtain⟨sh,C,_,o,_,p,_⟩:=bA wf;rw[de]at C;cases C;rw[qu]at o p;obtain⟨b,rfl⟩:∃b,ps=[b]:=by cases ps with|nil=>simp at p|cons b rest=>cases rest with|nil=>exact⟨b,rfl⟩|cons _ _=>simp at p
  rw[bF,bE]at o;have hn:eQ b=true:=by simpa[hW]using o.1
  obtain⟨i,rfl⟩:∃i,b= .int i:=by cases b<;>first|exact⟨_,rfl⟩|simp[eQ]at hn
  obtain⟨G,U,rfl,y,_⟩:=B;cases(show G=V.int i from y);have Y:0<=i:=by simp[eQ]at hn;omega
  obtain⟨u,rfl⟩:∃u,n=u+1:=⟨n-1,by omega⟩;have hi:i<A.length:=by rw[iz,if_pos rfl]at hcl;exact hcl
  have e:tG (u+1) A (.tup [.str "var", .int i])=(A[i.toNat]?).getD "":=by rw[tG,if_pos rfl]
  obtain⟨z,m⟩:∃z,A[i.toNat]?=some z:=⟨_,zQ03 (by omega)⟩;rw[e,m]at q;refine⟨_,rfl,_,rfl,a,_,_, .int i,rfl,rfl,cN.of ha,aF (j:=1) rfl,sc,_,i, .str z,rfl,rfl,aZ.of R,?_,q⟩;rw[show i=((i.toNat:Nat):Int)by omega];exact aF (by rw[fi,m];rfl)
 have hv:x≠"var":=λz=>c (by rw[z];exact decide_eq_true rfl);refine⟨_,rfl,a,_,_,_,rfl,rfl,cN.of ha,l,rfl,_,rfl,?_⟩;refine bD (λc=>?_) (λc=>?_)
 ·have c:V.str x=V.str "name":=of_decide_eq_true c;cases c;obtain⟨z,rfl⟩:=eJ wf;obtain⟨G,U,rfl,⟨y,_⟩,_⟩:=B;subst y;have e:tG n A (.tup [.str "name", .str z])=z:=by rw[tG,if_neg hv,if_pos rfl]
  rw[e]at q;exact⟨_,rfl,a,_,_, .str z,rfl,rfl,cN.of ha,aF (j:=1) rfl,q⟩
 have O:x≠"name":=λz=>c (by rw[z];exact decide_eq_true rfl);have e:tG n A (.tup (.str x::ps))=if ps=[]/\x≠"zero"then x else Fv n (.tup (.str x::ps)):=by show(if x="var"then _ else if x="name"then _ else if ps=[]/\x≠"zero"then x else Fv n (.tup (.str x::ps)))=_;rw[if_neg hv,if_neg O]
 rw[e]at q;have F:Fv n (.tup (.str x::ps))=(if ps=[]/\x≠"zero"then x else Fv n (.tup (.str x::ps)))->W J [some (.ref a),some (.ref sc)] H:=λe=>⟨_,rfl,_,_,rfl,r,I,hd,N,by rw[e];exact q⟩;refine⟨_,rfl,a,_,rfl, .inr (cN.of ha),rfl,_,rfl,?_⟩;refine bD (λc=>?_) (λc=>?_)
 ·have c:V.int (((V.str x::us).length:Nat):Int)=V.int 1:=of_decide_eq_true c;have S:ps=[]:=by injection c with c;rw[cU]at c;exact List.length_eq_zero_iff.mp (by omega)
  refine⟨_,rfl,a,_,_,_,rfl,rfl,cN.of ha,l,rfl,_,rfl,?_⟩;refine bD (λg=>?_) (λg=>?_)
  ·have m:x≠"zero":=λz=>by rw[z]at g;revert g;decide+kernel
   rw[if_pos ⟨S,m⟩]at q;exact⟨_,rfl,a,_,_,_,rfl,rfl,cN.of ha,l,q⟩
  ·refine F ?_;rw[if_neg];rintro⟨_,h⟩;refine g ?_;show(!decide (V.str x=V.str "zero"))=true;rw[decide_eq_false λz=>h (by injection z)];rfl
 ·refine F ?_;rw[if_neg];rintro⟨h,_⟩;refine c (decide_eq_true ?_);have :us=[]:=List.length_eq_zero_iff.mp (by rw[T,h];rfl);rw[this];rfl
theorem Nu{z:Str}(h:isNm z=true):wS z.cps.toList=[z]/\z≠"":=by refine⟨by rw[wS,G_ h];rfl,λe=>?_⟩;rw[e]at h;revert h;decide+kernel
theorem Sf{m:Nat}(h:m<60):wS (iA m).cps.toList=[iA m]/\iA m≠"":=by
 have all:((List.range 60).all λm=>decide (wS (iA m).cps.toList=[iA m])&&decide (iA m≠""))=true:=by decide+kernel
 have :=List.all_eq_true.mp all m (List.mem_range.mpr h);simp only[bE,decide_eq_true_eq]at this;exact this
noncomputable def F9(n:Nat)(A L:List Str)(x:Str)(ps:List D):List Str:=(if f_ x BO then L.take 1 else[])++((kN n A L x ps ps.length).map λz=>wS z.cps.toList).flatten
theorem Kk{n:Nat}{A L:List Str}{k:Bool}{x:Str}{ps:List D}(wf:dZ aY k (.tup (.str x::ps))=true)(hd:depth (.tup (.str x::ps))<60)(hcl:iz (n+1) A.length (.tup (.str x::ps)))(ok:Ok A L)(B:∀z,z∈bf (n+1) (.tup (.str x::ps))->isNm z=true):(wS (ft (n+1) A L (.tup (.str x::ps))).cps.toList=[tG (n+1) A (.tup (.str x::ps))]/\tG (n+1) A (.tup (.str x::ps))≠"")\/(tG (n+1) A (.tup (.str x::ps))=""/\x∈g7/\ao x ps=ps/\ps≠[]/\wS (ft (n+1) A L (.tup (.str x::ps))).cps.toList=Str.ofString "("::x::(F9 n A L x ps++[Str.ofString ")"])):=by
 obtain⟨sh,s,G,o,H,p,I,J,r,y,u⟩:=bA wf;have d:=List.all_eq_true.mp qw _ (ji y);by_cases hv:x="var"
 ·subst hv;rw[de]at s;cases s;rw[qu]at o p;obtain⟨c,rfl⟩:∃c,ps=[c]:=by cases ps with|nil=>simp at p|cons c rest=>cases rest with|nil=>exact⟨c,rfl⟩|cons _ _=>simp at p
  rw[bF,bE]at o;have hn:eQ c=true:=by simpa[hW]using o.1
  obtain⟨i,rfl⟩:∃i,c= .int i:=by cases c<;>first|exact⟨_,rfl⟩|simp[eQ]at hn
  have M:0<=i:=by simp[eQ]at hn;omega
  have hi:i<A.length:=by rw[iz,if_pos rfl]at hcl;exact hcl
  have e:ft (n+1) A L (.tup [.str "var", .int i])=(A[i.toNat]?).getD "":=by rw[ft,if_pos rfl]
  have f:tG (n+1) A (.tup [.str "var", .int i])=(A[i.toNat]?).getD "":=by rw[tG,if_pos rfl]
  obtain⟨z,g⟩:∃z,A[i.toNat]?=some z:=⟨_,zQ03 (by omega)⟩;rw[e,f,g,Option.getD_some];exact .inl (Nu (ok.nm z (List.mem_append.mpr (.inl (rW g)))))
 by_cases hn:x="name"
 ·subst hn;obtain⟨z,rfl⟩:=eJ wf;have e:ft (n+1) A L (.tup [.str "name", .str z])=z:=by rw[ft,if_neg hv,if_pos rfl]
  have f:tG (n+1) A (.tup [.str "name", .str z])=z:=by rw[tG,if_neg hv,if_pos rfl]
  rw[e,f];exact .inl (Nu (B z (by unfold bf;rw[if_pos rfl];exact List.mem_singleton.mpr rfl)))
 have e:ft (n+1) A L (.tup (.str x::ps))=match fL (n+1) (.tup (.str x::ps))with|some m=>iA m|none=>if ao x ps=[]then x else"("++Txt.join " " (x::((if f_ x BO then L.take 1 else[])++kN n A L x (ao x ps) (ao x ps).length))++")":=by
  conv=>lhs;unfold ft
  rw[if_neg hv,if_neg hn];rfl
 have f:tG (n+1) A (.tup (.str x::ps))=if ps=[]/\x≠"zero"then x else Fv (n+1) (.tup (.str x::ps)):=by show(if x="var"then _ else if x="name"then _ else if ps=[]/\x≠"zero"then x else Fv (n+1) (.tup (.str x::ps)))=_;rw[if_neg hv,if_neg hn]
 have q:ao x ps=ps:=by unfold ao;rw[if_neg (by unfold d8;simp[hv,hn])]
 rw[q]at e u;cases a:fL (n+1) (.tup (.str x::ps))with
  |some m=>
   rw[a]at e;have hm:=yf _ _ _ ⟨k,wf⟩ a;have f2:tG (n+1) A (.tup (.str x::ps))=iA m:=by
    rw[f,if_neg];·unfold Fv;rw[a]
    ·rintro⟨C,j⟩;subst C;have :fL (n+1) (.tup [.str x])=none:=by
      conv=>lhs;unfold fL
      split;·rfl
      ·first|rfl|rw[if_neg j]
     rw[this]at a;cases a
   rw[e,f2];exact .inl (Sf (by omega))
  |none=>
   rw[a]at e;have e:ft (n+1) A L (.tup (.str x::ps))=if ps=[]then x else"("++Txt.join " " (x::((if f_ x BO then L.take 1 else[])++kN n A L x ps ps.length))++")":=e;by_cases b:ps=[]
   ·rw[if_pos b]at e;have g:x≠"zero":=λz=>by subst z;rw[show fL (n+1) (.tup (.str "zero"::ps))=some 0 by conv=>lhs;unfold fL;rw[if_neg (by decide+kernel),if_pos rfl]]at a;cases a
    rw[f,if_pos ⟨b,g⟩,e];have hr:r=[]:=List.length_eq_zero_iff.mp (by rw[u,b];rfl);rw[if_pos hr]at d;have d:x∈(["nat","none","zero","var","name"]:List Str):=of_decide_eq_true d;simp only[zQ34,zQ16,or_false]at d;rcases d with rfl|rfl|rfl|rfl|rfl;·exact .inl (by decide+kernel)
    ·exact .inl (by decide+kernel)
    ·exact absurd rfl g
    ·exact absurd rfl hv
    ·exact absurd rfl hn
   ·rw[if_neg b]at e;have j:x∈g7:=(zk wf (by rw[q];exact b)).1;have v:=List.all_eq_true.mp vP x j;simp only[bE,decide_eq_true_eq]at v;have E:wS x.cps.toList=[x]:=by rw[wS,v.2.2.2.1];rfl
    refine .inr ⟨?_,j,q,b,?_⟩;·rw[f,if_neg λh=>b h.1];unfold Fv;rw[a]
    ·rw[e,Js,E,cO,List.flatten_append];unfold F9;by_cases hb:f_ x BO=true;·rw[if_pos hb];cases L with|nil=>simp|cons l F=>have hl:=(Nu (ok.nm l (by simp))).1;simp[hl]
     ·rw[if_neg hb];simp
theorem IQ(xs:List V)(a b:Nat)(h:a<=xs.length):hU xs (some (a:Int)) (some (b:Int))=(xs.drop a).take (b-a):=by
 unfold hU;rw[HT.pA,HT.pA,Nat.min_eq_left h];by_cases c:b<=xs.length;·rw[Nat.min_eq_left c]
 ·rw[Nat.min_eq_right (by omega),rj (by rw[ko];omega),rj (by rw[ko];omega)]
theorem uk(pre ws post:List Str){k:Nat}(h:k=ws.length):hU ((pre++ws++post).map V.str) (some ((pre.length:Nat):Int)) (some ((pre.length+k:Nat):Int))=ws.map V.str:=by subst h;rw[IQ _ _ _ (by simp),fk,cO,List.drop_append_of_le_length (by simp),List.drop_of_length_le (by simp),List.nil_append,cO,List.take_append_of_le_length (by simp),rj (by simp)]
theorem rA(ws:List Str):sk (ws.map V.str) (ws.map V.str)=true:=by unfold sk;rw[decide_eq_true rfl,Bool.true_and,List.all_eq_true];intro j hj;rw[List.mem_range,br]at hj;rw[fi,zQ03 hj];show(ws[j]==ws[j])=true;exact beq_self_eq_true _
def WR(A F L:List Str):Prop:=∃m,L=(fc (A++F) 702).take m/\m<=(fc (A++F) 702).length
theorem Hr{T T':List Str}{l:Str}{a:List Str}(h:fc T 702=l::a)(hm:∀z,z∈T'↔z=l\/z∈T):fc T' 702=a:=by
 have nd:=HL T 702;rw[h,List.nodup_cons]at nd;have e:fc T' 702=(fc T 702).filter λz=>decide (z≠l):=by unfold fc;rw[List.filter_filter];congr 1;funext z;rw[<-Bool.decide_and];apply decide_eq_decide.mpr;rw[hm];exact not_or
 rw[e,h,List.filter_cons_of_neg (by simp),List.filter_eq_self];intro z b;exact decide_eq_true λc=>nd.1 (c▸b)
theorem WR.next{A F L:List Str}(h:WR A F L){b:Nat}(hb:b<=1)(hl:1<=L.length):WR (L.take b++A) F (L.drop b):=by
 have c:b=0\/b=1:=by omega
 rcases c with rfl|rfl;·exact h
 ·obtain⟨m,e,hm⟩:=h;cases hh:fc (A++F) 702 with
   |nil=>rw[hh]at e;simp at e;rw[e]at hl;simp at hl
   |cons l a=>
    rw[hh]at e hm;cases m with
     |zero=>rw[e]at hl;simp at hl
     |succ m=>
      rw[List.take_succ_cons]at e;subst e;have :=Hr (T':=([l]++A)++F) hh (λz=>by simp[or_assoc]);refine⟨m,?_,?_⟩;·show a.take m=_;rw[show(l::a.take m).take 1++A++F=([l]++A)++F from rfl,this]
      ·rw[show(l::a.take m).take 1++A++F=([l]++A)++F from rfl,this];simpa using hm
noncomputable def j4(n:Nat)(A L:List Str)(x:Str)(ps:List D)(j:Nat):List Str:=((kN n A L x ps j).map λz=>wS z.cps.toList).flatten
theorem jl{n:Nat}{A L:List Str}{x:Str}{ps:List D}{j:Nat}{p:D}(h:ps[j]?=some p):j4 n A L x ps (j+1)=j4 n A L x ps j++wS (ft n (L.take (fg x j)++A) (L.drop (fg x j)) p).cps.toList:=by unfold j4;rw[AN h,cO,List.flatten_append];simp
theorem tf{n:Nat}{A L:List Str}{x:Str}{ps:List D}:∀(m j:Nat),j<=m->m<=ps.length->∃a,j4 n A L x ps m=j4 n A L x ps j++a
 |0,j,h,_=>⟨[],by rw[show j=0 by omega,gg]⟩
 |m+1,j,h,hm=>by
  by_cases e:j=m+1;·exact⟨[],by rw[e,gg]⟩
  ·obtain⟨a,hr⟩:=tf (n:=n) (A:=A) (L:=L) (x:=x) (ps:=ps) m j (by omega) (by omega);obtain⟨p,b⟩:∃p,ps[m]?=some p:=⟨_,zQ03 (by omega)⟩;exact⟨_,by rw[jl b,hr,fk]⟩
def zw(n:Nat):Sp:=λvs H Q _=>∃(d:D)(v:V)(tl sc kp:Addr)(pre post A F L:List Str),vs=[v, .ref tl, .int (pre.length:Nat), .ref sc, .ref kp]/\Rep H d v/\Wf d/\depth d<n/\depth d<60/\n<=800/\H tl=some (.lst ((pre++wS (ft n A L d).cps.toList++post).map V.str))/\H sc=some (.lst (A.map V.str))/\H kp=some (.lst (F.map V.str))/\pre.length+(wS (ft n A L d).cps.toList).length+post.length<=100000/\depth d<=L.length/\iz n A.length d/\Ok A L/\WR A F L/\A.length+L.length<=400/\F.length<=400/\(∀z,z∈bf n d->isNm z=true)/\∀H',aN H H'->Q (.int ((pre.length+(wS (ft n A L d).cps.toList).length:Nat):Int)) H'
theorem ck:aT ["_law_thing_here","_law_told","_law_at","_law_scope","_law_kept_here","_law_under","_law_k"] Mi (aw eM):=⟨rfl,rfl,rfl,by decide+kernel,rfl,by decide+kernel,by decide+kernel⟩
theorem wN{n:Nat}(D:Df K mg "_law_gone" eM Mi)(M:Mg mg t)(dO:bB P w K mg bJ "_law_alone" (2) ["_law_thing_here","_law_scope"] (Qk (n+1)))(a_:bB P w K mg bJ "_law_bound" (1) ["_law_word"] qJ)(fG:bB P w K mg bJ "_law_first" (1) ["_law_taken"] OY)(eS:bB P w K mg bJ "_law_gone" (n+3) Mi (zw n)):bB P w K mg bJ "_law_gone" (n+4) Mi (zw (n+1)):=by
 refine D.ok ck (λvs H Q E h=>?_) (λbase f dh A outer s H vs Q E hr h=>?_);·obtain⟨d,v,tl,sc,kp,pre,post,A,F,L,rfl,_⟩:=h;rfl
 obtain⟨d,v,tl,sc,kp,pre,post,A,F,L,rfl,r,ig,hd,RS,aae,G,T,W6,hlen,hdl,hcl,ok,fst,YR,JK,w4,q⟩:=h;have hu:=ql hr;refine⟨_,(af (aU (L2.PW.pt (e_ (av Ax (pv 2) ah (ay _)) (eY (av xr (pv 2) (aL aV rfl M.dy cz (aa (pv 1) ag)) (ay _))))) (ai (az (iC fJ ah))) aB) (af (aU (av lR (aS dO hr.m rfl aX (aa (pv 0) (aa (pv 3) ag))) ak (ay _)) (ai (az (aH bH (bw (aa (iC fJ ah) (aa (aG cq (pv 2) ah) ag))) (cf kr rfl M.Fz yN (aa (gd bc (aH bH (pv 1) (pv 2) (λ_ _=>rfl)) (aS dO hr.m rfl aX (aa (pv 0) (aa (pv 3) ag))) (ay _)) ag)) (λ_ _=>rfl)))) aB) (af (aU (av (yF hu) (eR ip (pv 1) (du (pv 2)) (du (aG cq (pv 2) ah))) (bw (aa ak (aa (aH aM (pv 0) ah (λ_ _=>rfl)) ag))) (ay _)) (ai (az (iC fJ ah))) aB) (af (aE (i:=2) ck.nd rfl (cI rfl) (aG cq (pv 2) ah)) (af (aE (i:=5) ck.nd rfl (cI rfl) (pv 3)) (af (aU (av xr (aS a_ hr.m rfl aX (aa (aH aM (pv 0) ah (λ_ _=>rfl)) ag)) ah (ay _)) (af (aU (av (yF hu) (eR ip (pv 1) (du (pv 2)) (du (aG cq (pv 2) ah))) (bw (aa (aS fG hr.m rfl aX (aa (aG rH (pv 3) (pv 4)) ag)) ag)) (ay _)) (ai (az (iC fJ ah))) aB) (af (aE (i:=5) ck.nd rfl (cI rfl) (aG rH (bw (aa (aH bH (pv 1) (pv 2) (λ_ _=>rfl)) ag)) (pv 3))) (ai (aE (i:=2) ck.nd rfl (cI rfl) (aG cq (pv 2) ah))))) aB) (af (dC PassesOwn.never rfl (j_ rfl M.fI (aa ah (aa (aL aV rfl M.dy cz (aa (pv 0) ag)) ag))) (bu (i:=6) ck.nd rfl (cI rfl)) (ai (aU (av bc (aG iR (pv 6) ah) (aS a_ hr.m rfl aX (aa (aH aM (pv 0) ah (λ_ _=>rfl)) ag)) (ay _)) (ai (aE (i:=2) ck.nd rfl (cI rfl) (aS eS hr.m rfl aX (aa (aH aM (pv 0) (pv 6) (λ_ _=>rfl)) (aa (pv 1) (aa (pv 2) (aa (pv 5) (aa (pv 4) ag)))))))) (ai (aE (i:=2) ck.nd rfl (cI rfl) (aS eS hr.m rfl aX (aa (aH aM (pv 0) (pv 6) (λ_ _=>rfl)) (aa (pv 1) (aa (pv 2) (aa (pv 3) (aa (pv 4) ag))))))))))) (af (aU (L2.PW.pt (e_ (av Ax (pv 2) ah (ay _)) (eY (av (yF hu) (eR ip (pv 1) (du (pv 2)) (du (aG cq (pv 2) ah))) (bw (aa ak ag)) (ay _))))) (ai (az (iC fJ ah))) aB) (ai (az (aG cq (pv 2) ah))))))))))),?_⟩;try dsimp only[lB,d5]
 refine Vu ?_;intro _ _ _ _ _ _ _ _ _;rename_i D0 v9 v8 v7 v6 v5 v4 v3 v2;obtain⟨x,ps,k,rfl,wf,zM⟩:=hV ig;obtain⟨a,wq,rfl,ha,v0,us,rfl,⟨rfl,hx⟩,rp⟩:=id r;have Qz:=rp.length;have ea:gP (V.str x::us) 0=some (.str x):=aF (j:=0) rfl;have two:=Kk wf RS hcl ok w4;have h1:1<=(wS (ft (n+1) A L (.tup (.str x::ps))).cps.toList).length:=by
  rcases two with⟨I,_⟩|⟨_,_,_,_,I⟩;·rw[I];exact zQ04 _
  ·rw[I];simp
 have tll:(((pre++wS (ft (n+1) A L (.tup (.str x::ps))).cps.toList++post).map V.str).length:Nat)=pre.length+(wS (ft (n+1) A L (.tup (.str x::ps))).cps.toList).length+post.length:=by simp;omega
 refine⟨_,rfl,_,_,rfl,rfl,_,rfl,bD (λc=>?_) (λ_=>?_)⟩;·have c:((pre.length:Nat):Int)<0:=of_decide_eq_true c;omega
 refine⟨_,rfl,_,rfl,tl,_,rfl, .inl (aZ.of G),_,_,rfl,rfl,_,rfl,bD (λc=>?_) (λ_=>?_)⟩;·have c:(((((pre++wS (ft (n+1) A L (.tup (.str x::ps))).cps.toList++post).map V.str).length:Nat)):Int)<=((pre.length:Nat):Int):=of_decide_eq_true c;rw[tll]at c;omega
 refine⟨_,rfl,_,rfl,_,_,sc,A,rfl,r,ig,by omega,by omega,T,hcl,rfl,_,rfl,?_⟩;rcases two with⟨I,w2⟩|⟨I,U,ek,hne,w2⟩
 ·refine bD (λ_=>?_) (λc=>?_)
  ·rw[I]at G q hlen;have et:gP ((pre++[tG (n+1) A (.tup (.str x::ps))]++post).map V.str) ((pre.length:Nat):Int)=some (.str (tG (n+1) A (.tup (.str x::ps)))):=aF (by rw[fi,fk,List.getElem?_append_right (zQ04 _),Nat.sub_self];rfl);refine⟨_,rfl,_,rfl,_,_,rfl,rfl,(gH rfl),λX oq=>?_⟩;have B:=aq oq (.lst [V.int (-1), .int (((pre.length:Nat):Int)+1)]);refine⟨_,rfl,_,rfl,tl,_,_,_,rfl,rfl,aZ.of (B _ _ G),et,_,rfl,_,rfl,_,_,sc,A,rfl,r.mono B,ig,by omega,by omega,B _ _ T,hcl,rfl, .inr ⟨_,rfl,X,_,_, .int (((pre.length:Nat):Int)+1),rfl,rfl,aZ.of aj,?_,?_⟩⟩;·rw[decide_eq_true rfl];rfl
   ·have :=q _ B;rw[show((pre.length+[tG (n+1) A (.tup (.str x::ps))].length:Nat):Int)=((pre.length:Nat):Int)+1 by simp]at this;exact this
  ·refine absurd ?_ c;show(!decide (V.str (tG (n+1) A (.tup (.str x::ps)))=V.str ""))=true;rw[decide_eq_false λz=>w2 (by injection z)];rfl
 ·refine bD (λc=>?_) (λ_=>?_);·have c:(!decide (V.str (tG (n+1) A (.tup (.str x::ps)))=V.str ""))=true:=c;rw[I]at c;exact absurd c (by decide+kernel)
  rw[w2]at G q hlen;have W:Str.ofString "("::x::(F9 n A L x ps++[Str.ofString ")"])=[Str.ofString "(",x]++(F9 n A L x ps++[Str.ofString ")"]):=rfl;refine⟨_,rfl,_,rfl,_,rfl,_,rfl,_,_,rfl,rfl,_,rfl,tl,_,rfl,aZ.of G,λX oq=>?_⟩;rw[show pre++Str.ofString "("::x::(F9 n A L x ps++[Str.ofString ")"])++post=pre++[Str.ofString "(",x]++(F9 n A L x ps++[Str.ofString ")"]++post)by simp,show((pre.length:Nat):Int)+2=((pre.length+2:Nat):Int)by omega,uk pre [Str.ofString "(",x] _ (k:=2) rfl];have B:=aq oq (.lst (([Str.ofString "(",x]:List Str).map V.str));have HU:(upd H X (.lst (([Str.ofString "(",x]:List Str).map V.str))) X=some (.lst (([Str.ofString "(",x]:List Str).map V.str)):=aj;generalize upd H X (.lst (([Str.ofString "(",x]:List Str).map V.str))=J at B HU⊢;refine⟨_,rfl,a,_,_,_,rfl,rfl,cN.of (B _ _ ha),ea,(gH rfl),λp2 j5=>?_⟩;have t2:=aq j5 (.lst (([Str.ofString "(",x]:List Str).map V.str));refine⟨X,p2,_,_,rfl,rfl,aZ.of (t2 _ _ HU),aZ.of aj,dg [Str.ofString "(",x],dg [Str.ofString "(",x],_,rfl,?_⟩;rw[show sk (([Str.ofString "(",x]:List Str).map V.str) [V.str "(",V.str x]=true from rA [Str.ofString "(",x]];refine cS ?_;have s2:aN H (upd J p2 (.lst [V.str "(",V.str x])):=B.trans t2;generalize upd J p2 (.lst [V.str "(",V.str x])=H2 at s2⊢;refine⟨_,rfl,_,_,rfl,rfl,_,rfl,?_⟩;have X1:((pre.length:Nat):Int)+2=(((pre++[Str.ofString "(",x]).length:Nat):Int):=by simp
  show v6 D0 [some (.ref a),some (.ref tl),some (.int (((pre.length:Nat):Int)+2)),some (.ref sc),some (.ref kp),some (.ref sc),none] H2;rw[X1];have rest:∀(b:List Str)(un:Addr)(g:Hp),aN H g->pre++[Str.ofString "(",x]++(if f_ x BO then L.take 1 else[])=b->g un=some (.lst ((if f_ x BO then L.take 1++A else A).map V.str))->v7 D0 [some (.ref a),some (.ref tl),some (.int ((b.length:Nat):Int)),some (.ref sc),some (.ref kp),some (.ref un),none] g:=by
   intro b un g Z hpr hun;have ZW:=Z _ _ ha;have SX:g tl=some (.lst ((b++j4 n A L x ps ps.length++([Str.ofString ")"]++post)).map V.str)):=by rw[Z _ _ G,<-hpr];congr 3;unfold F9 j4;simp
   have rp3:=rp.mono Z;have SJ:-(2^62:Int)<=(((V.str x::us).length:Nat):Int)/\(((V.str x::us).length:Nat):Int)<2^62:=by rw[cU];omega
   refine⟨_,rfl,a,_,rfl, .inr (cN.of ZW),1,_,rfl,⟨by decide,by decide,SJ.1,SJ.2⟩,?_⟩;rw[show((((V.str x::us).length:Nat):Int)-1).toNat=us.length by rw[cU];omega];have hql:(b++j4 n A L x ps ps.length).length+1=pre.length+(Str.ofString "("::x::(F9 n A L x ps++[Str.ofString ")"])).length:=by rw[<-hpr];unfold F9 j4;simp;omega
   refine d4 us.length (λj bg H'=>∃kv,bg=[some (.ref a),some (.ref tl),some (.int (((b++j4 n A L x ps j).length:Nat):Int)),some (.ref sc),some (.ref kp),some (.ref un),kv]/\aN g H') ⟨none,by simp[j4,kN],aN.refl g⟩ ?_ ?_
   ·rintro j bg N hj⟨kv,rfl,m⟩;refine⟨hj,?_⟩;rintro x' O⟨rfl,rfl⟩;obtain⟨p,hp⟩:∃p,ps[j]?=some p:=⟨_,zQ03 (by omega)⟩;obtain⟨u,hu',ru⟩:=rp3.get hp;have NJ:=ru.mono m;have YL:=m _ _ ZW;have e0:(1:Int)+(j:Int)=((j+1:Nat):Int):=by omega
    have eu:gP (V.str x::us) (1+(j:Int))=some u:=by rw[e0];exact aF (j:=j+1) hu'
    have jv:(ao x ps)[j]?=some p:=by rw[ek];exact hp
    obtain⟨w1',w2'⟩:=c6 wf jv;have hv:x≠"var":=λz=>by rw[z]at U;revert U;decide+kernel
    have hn:x≠"name":=λz=>by rw[z]at U;revert U;decide+kernel
    have CT:=uA x j;have IK:=FK U j;rw[xq]at IK;obtain⟨Y,TQ⟩:=tf (n:=n) (A:=A) (L:=L) (x:=x) (ps:=ps) ps.length (j+1) (by omega) (zQ04 _);have YA:O tl=some (.lst ((b++j4 n A L x ps j++wS (ft n (L.take (fg x j)++A) (L.drop (fg x j)) p).cps.toList++(Y++[Str.ofString ")"]++post)).map V.str)):=by rw[m _ _ SX,TQ,jl hp];congr 3;simp
    have UR:(b++j4 n A L x ps j).length+(wS (ft n (L.take (fg x j)++A) (L.drop (fg x j)) p).cps.toList).length+(Y++[Str.ofString ")"]++post).length<=100000:=by
     have :(b++j4 n A L x ps ps.length).length=(b++j4 n A L x ps j).length+(wS (ft n (L.take (fg x j)++A) (L.drop (fg x j)) p).cps.toList).length+Y.length:=by rw[TQ,jl hp];simp;omega
     have e9:(Y++[Str.ofString ")"]++post).length=Y.length+1+post.length:=by simp;omega
     rw[e9];omega
    have call:∀(sa:Addr),O sa=some (.lst ((L.take (fg x j)++A).map V.str))->∀R:V->Hp->Prop,(∀H',aN O H'->R (.int (((b++j4 n A L x ps (j+1)).length:Nat):Int)) H')->zw n [u, .ref tl, .int (((b++j4 n A L x ps j).length:Nat):Int), .ref sa, .ref kp] O R E0:=λsa hsa R hR=>by
     refine⟨p,u,tl,sa,kp,b++j4 n A L x ps j,Y++[Str.ofString ")"]++post,L.take (fg x j)++A,F,L.drop (fg x j),rfl,NJ,w1',by omega,by omega,by omega,YA,hsa,m _ _ (Z _ _ W6),UR,by rw[ko];omega,?_,ok.next _,fst.next CT (by omega),?_,JK,λz hz=>w4 z (jq hn jv hz),λH' s'=>?_⟩;·have :=wb hv hcl jv;rw[cE,iP,Nat.min_eq_left (by omega),Nat.add_comm];exact this
     ·rw[cE,iP,ko];omega
     ·have :=hR H' s';rw[jl hp,<-fk,cE]at this;exact this
    refine⟨_,rfl,_,_,rfl,rfl,_,rfl,a,_,_,_,rfl,rfl,cN.of YL,ea,x,rfl,rfl,_,rfl,?_⟩;by_cases e:((j:Nat):Int)=iX x
    ·rw[show decide (V.int (1+(j:Int)-1)=V.int (iX x))=true by rw[<-e];exact decide_eq_true (by rw[show(1:Int)+(j:Int)-1=(j:Int)by omega])];rw[if_pos e]at IK;have hb:fg x j=1:=by omega
     have hi:f_ x BO=true:=by cases hi:f_ x BO with|true=>rfl|false=>rw[X9 hi]at hb;cases hb
     rw[if_pos hi]at hun;refine b9 ⟨_,rfl,_,rfl,a,_,_,_,rfl,rfl,cN.of YL,eu,_,rfl,_,rfl,_,rfl,_,rfl,?_⟩;exact call un (by rw[hb];exact m _ _ hun) (λy J=>∃kv,[some (.ref a),some (.ref tl),some y,some (.ref sc),some (.ref kp),some (.ref un),some (.int (1+(j:Int)))]=[some (.ref a),some (.ref tl),some (.int (((b++j4 n A L x ps (j+1)).length:Nat):Int)),some (.ref sc),some (.ref kp),some (.ref un),kv]/\aN g J) λH' s'=>⟨_,rfl,m.trans s'⟩
    ·rw[show decide (V.int (1+(j:Int)-1)=V.int (iX x))=false from decide_eq_false λh=>e (by injection h with h;omega)];rw[if_neg e]at IK;have hb:fg x j=0:=by omega
     refine cS ⟨_,rfl,_,rfl,a,_,_,_,rfl,rfl,cN.of YL,eu,_,rfl,_,rfl,_,rfl,_,rfl,?_⟩;exact call sc (by rw[hb];exact m _ _ (Z _ _ T)) (λy J=>∃kv,[some (.ref a),some (.ref tl),some y,some (.ref sc),some (.ref kp),some (.ref un),some (.int (1+(j:Int)))]=[some (.ref a),some (.ref tl),some (.int (((b++j4 n A L x ps (j+1)).length:Nat):Int)),some (.ref sc),some (.ref kp),some (.ref un),kv]/\aN g J) λH' s'=>⟨_,rfl,m.trans s'⟩
   ·rintro bg N⟨kv,rfl,m⟩;refine⟨zQ04 _,?_⟩;rw[Qz];refine⟨_,rfl,_,_,rfl,rfl,_,rfl,bD (λc=>?_) (λ_=>?_)⟩;·have c:(((b++j4 n A L x ps ps.length).length:Nat):Int)<0:=of_decide_eq_true c;omega
    have UL:=m _ _ SX;have eT:b++j4 n A L x ps ps.length++([Str.ofString ")"]++post)=(b++j4 n A L x ps ps.length)++[Str.ofString ")"]++post:=by simp
    rw[eT]at UL;refine⟨_,rfl,_,rfl,_,rfl,_,rfl,_,_,rfl,rfl,_,rfl,tl,_,rfl,aZ.of UL,λo uP=>?_⟩;rw[show(((b++j4 n A L x ps ps.length).length:Nat):Int)+1=(((b++j4 n A L x ps ps.length).length+1:Nat):Int)by omega,uk (b++j4 n A L x ps ps.length) [Str.ofString ")"] _ (k:=1) rfl];have t5:=aq uP (.lst (([Str.ofString ")"]:List Str).map V.str));have h5:(upd N o (.lst (([Str.ofString ")"]:List Str).map V.str))) o=some (.lst (([Str.ofString ")"]:List Str).map V.str)):=aj;generalize upd N o (.lst (([Str.ofString ")"]:List Str).map V.str))=O at t5 h5⊢;refine⟨(gH rfl),λp6 Ik=>?_⟩;have t6:=aq Ik (.lst [V.str ")"]);refine⟨o,p6,_,_,rfl,rfl,aZ.of (t6 _ _ h5),aZ.of aj,dg [Str.ofString ")"],dg [Str.ofString ")"],_,rfl,?_⟩;rw[show sk (([Str.ofString ")"]:List Str).map V.str) [V.str ")"]=true from rA [Str.ofString ")"]];refine cS ⟨_,rfl,_,_,rfl,rfl,?_⟩;have :=q _ (Z.trans (m.trans (t5.trans t6)));rw[<-hql]at this;rw[show(((b++j4 n A L x ps ps.length).length+1:Nat):Int)=(((b++j4 n A L x ps ps.length).length:Nat):Int)+1 by omega]at this;exact this
  have ha2:=s2 _ _ ha;refine⟨_,rfl,a,_,_,_,rfl,rfl,cN.of ha2,ea,x,rfl,_,_,rfl,rfl,_,rfl,?_⟩;have Z8:=List.all_eq_true.mp yL x U;simp only[bE,decide_eq_true_eq]at Z8;obtain⟨_,C,g4,_⟩:=Z8;refine bD (λc=>?_) (λc=>?_)
  ·have c:(0:Int)<=iX x:=of_decide_eq_true c;rw[if_neg (by omega)]at C;rw[bE]at C;obtain⟨l,L',hL⟩:∃l L',L=l::L':=by cases L with|nil=>have :=(b0 wf).2;simp at hdl;omega|cons z L'=>exact⟨z,L',rfl⟩
   have hl1:L.take 1=[l]:=by rw[hL];rfl
   obtain⟨fm,S,fl⟩:=fst;have hhd:(fc (A++F) 702).headD Str.empty=l:=by cases hh:fc (A++F) 702 with|nil=>rw[hh,hL]at S;simp at S|cons y ys=>rw[hh,hL]at S;cases fm with|zero=>simp at S|succ fm=>rw[List.take_succ_cons]at S;exact(List.cons.inj S).1.symm
   have Ot:=s2 _ _ G;have eT:pre++Str.ofString "("::x::(F9 n A L x ps++[Str.ofString ")"])++post=(pre++[Str.ofString "(",x])++[l]++(((kN n A L x ps ps.length).map λz=>wS z.cps.toList).flatten++[Str.ofString ")"]++post):=by unfold F9;rw[if_pos C.1,hl1];simp
   rw[eT]at Ot;refine⟨_,rfl,_,rfl,_,rfl,_,rfl,_,_,rfl,rfl,_,rfl,tl,_,rfl,aZ.of Ot,λo uP=>?_⟩;rw[show(((pre++[Str.ofString "(",x]).length:Nat):Int)+1=(((pre++[Str.ofString "(",x]).length+1:Nat):Int)by omega,uk (pre++[Str.ofString "(",x]) [l] _ (k:=1) rfl];have t3:=aq uP (.lst (([l]:List Str).map V.str));have h3:(upd H2 o (.lst (([l]:List Str).map V.str))) o=some (.lst (([l]:List Str).map V.str)):=aj;generalize upd H2 o (.lst (([l]:List Str).map V.str))=g at t3 h3⊢;refine⟨_,rfl,_,rfl,sc,kp,_,_,rfl,rfl,t3 _ _ (s2 _ _ T),t3 _ _ (s2 _ _ W6),(by rw[br,br];exact big (by omega)),λp4 XI=>?_⟩;rw[<-cO];have t4:=aq XI (.lst ((A++F).map V.str));have h4:(upd g p4 (.lst ((A++F).map V.str))) p4=some (.lst ((A++F).map V.str)):=aj;generalize upd g p4 (.lst ((A++F).map V.str))=N at t4 h4⊢;refine⟨p4,A++F,rfl,h4,?_⟩;rw[hhd];refine⟨(gH rfl),λp5 VX=>?_⟩;have t5:=aq VX (.lst [V.str l]);refine⟨o,p5,_,_,rfl,rfl,aZ.of (t5 _ _ (t4 _ _ h3)),aZ.of aj,dg [l],dg [l],_,rfl,?_⟩;rw[show sk (([l]:List Str).map V.str) [V.str l]=true from rA [l]];refine cS ?_;have s5:aN H2 (upd N p5 (.lst [V.str l])):=t3.trans (t4.trans t5);generalize upd N p5 (.lst [V.str l])=O at s5⊢;have et:gP (((pre++[Str.ofString "(",x])++[l]++(((kN n A L x ps ps.length).map λz=>wS z.cps.toList).flatten++[Str.ofString ")"]++post)).map V.str) (((pre++[Str.ofString "(",x]).length:Nat):Int)=some (.str l):=aF (by rw[fi,fk (pre++[Str.ofString "(",x]),List.getElem?_append_right (zQ04 _),Nat.sub_self];rfl);refine⟨_,rfl,_,rfl,tl,_,_,_,rfl,rfl,aZ.of (s5 _ _ Ot),et,(gH rfl),λp6 Ik=>?_⟩;have t6:=aq Ik (.lst [V.str l]);refine⟨_,rfl,p6,sc,_,_,rfl,rfl,aj,t6 _ _ (s5 _ _ (s2 _ _ T)),(by rw[br];exact big (by show 1+A.length<=1000;omega)),λp7 U5=>?_⟩;have t7:=aq U5 (.lst ([V.str l]++A.map V.str));refine⟨_,rfl,_,_,rfl,rfl,?_⟩;have :=rest (pre++[Str.ofString "(",x]++[l]) p7 _ (s2.trans (s5.trans (t6.trans t7))) (by rw[if_pos C.1,hl1]) (by rw[if_pos C.1,hl1];exact aj);rw[show(((pre++[Str.ofString "(",x]++[l]).length:Nat):Int)=(((pre++[Str.ofString "(",x]).length:Nat):Int)+1 by rw[cE (bs:=[l])];rfl]at this;exact this
  ·have c:¬(0:Int)<=iX x:=of_decide_eq_false (Bool.eq_false_iff.mpr c);rw[if_pos (by omega)]at C;have hb:f_ x BO=false:=by simpa using C
   have :=rest (pre++[Str.ofString "(",x]) sc H2 s2 (by rw[hb];simp) (by rw[hb];exact s2 _ _ T);exact this
theorem qk(D:Df K mg "_law_gone" eM Mi)(M:Mg mg t)(a:∀n,bB P w K mg bJ "_law_alone" (2) ["_law_thing_here","_law_scope"] (Qk n))(b:bB P w K mg bJ "_law_bound" (1) ["_law_word"] qJ)(c:bB P w K mg bJ "_law_first" (1) ["_law_taken"] OY):∀n:Nat,bB P w K mg bJ "_law_gone" (n+3) Mi (zw n)|0=>bB.never D λvs H Q E⟨d,v,_,_,_,_,_,_,_,_,_,_,_,h,_⟩=>absurd h (Nat.not_lt_zero _)|n+1=>wN D M (a (n+1)) b c (qk D M a b c n)
theorem in3(c:Nat):(!(Builtin.Str.occurrences (Str.ofString "() ") ⟨#[c]⟩ 0 (Str.ofString "() ").length 1).isEmpty)=decide (c=40\/c=41\/c=32):=by rw[StrLaws.found_one,show(Str.ofString "() ").cps.toList=[40,41,32]by decide+kernel];simp[Bool.decide_or]
theorem in2(c:Nat):(!(Builtin.Str.occurrences (Str.ofString "()") ⟨#[c]⟩ 0 (Str.ofString "()").length 1).isEmpty)=decide (c=40\/c=41):=by rw[StrLaws.found_one,show(Str.ofString "()").cps.toList=[40,41]by decide+kernel];simp[Bool.decide_or]
theorem vY(r:List Nat):tx r=""↔r=[]:=by
 constructor
 ·intro h;have :=congrArg (λz:Str=>z.cps.toList) h;have e:(Str.ofString "").cps.toList=[]:=by decide+kernel
  simpa[tx,e]using this
 ·rintro rfl;decide+kernel
theorem Qv{c:Nat}(h:c≠10):brk c=decide (c=40\/c=41\/c=32):=by unfold brk;rw[Bool.eq_iff_iff];simp[h];omega
def TV:Sp:=λvs H Q _=>∃T:Str,vs=[.str T]/\T.length<=100000/\(∀c,c∈T.cps.toList->c≠10)/\∀(a:Addr)(H':Hp),H a=none->aN H H'->H' a=some (.lst ((wS T.cps.toList).map V.str))->Q (.ref a) H'
theorem cK:aT ["_law_line","_law_found","_law_run","_law_sign"] ["_law_line"] (aw fD):=⟨rfl,rfl,rfl,by decide+kernel,rfl,by decide+kernel,by decide+kernel⟩
theorem xf(D:Df K mg "_law_words" fD ["_law_line"])(M:Mg mg t):bB P w K mg bJ "_law_words" (1) ["_law_line"] TV:=by
 refine D.ok cK (λvs H Q E h=>?_) (λbase f dh A outer s H vs Q E hr h=>?_);·obtain⟨T,rfl,_⟩:=h;rfl
 obtain⟨T,rfl,hT,GA,q⟩:=h;refine⟨_,(af (aE (i:=1) cK.nd rfl (cI rfl) (bw ag)) (af (aE (i:=2) cK.nd rfl (cI rfl) ak) (af (dC PassesOwn.never rfl (kx (pv 0)) (bu (i:=3) cK.nd rfl (cI rfl)) (af (aU (L2.PW.pt (qU (av kB (pv 3) ak rfl) (ju (av lR (pv 2) ak (ay _))))) (af (cA (fW PySem.F.plainAttrs_list PySem.F.slot_list_append PySem.F.type_list_append cJ (pv 1) (aa (pv 2) ag))) (ai (aE (i:=2) cK.nd rfl (cI rfl) ak))) aB) (ai (aU (av kB (pv 3) ak rfl) (ai (cA (fW PySem.F.plainAttrs_list PySem.F.slot_list_append PySem.F.type_list_append cJ (pv 1) (aa (pv 3) ag)))) (ai (aU (av lR (pv 3) ak (ay _)) (ai (aE (i:=2) cK.nd rfl (cI rfl) (aG c_ (pv 2) (pv 3)))) aB)))))) (af (aU (av lR (pv 2) ak (ay _)) (ai (cA (fW PySem.F.plainAttrs_list PySem.F.slot_list_append PySem.F.type_list_append cJ (pv 1) (aa (pv 2) ag)))) aB) (ai (az (pv 1))))))),?_⟩;try dsimp only[lB,d5]
 refine RP ?_;intro _ _ _ _ _;refine⟨(gH rfl),λa L=>?_⟩;have t1:=aq L (.lst []);have h1:(upd H a (.lst [])) a=some (.lst []):=aj;generalize upd H a (.lst [])=X at t1 h1⊢;let Y:Nat->L2.St->Hp->Prop:=(λi W H'=>∃(d:List (List Nat))(r:List Nat)(U:Option V),W=[some (.str T),some (.ref a),some (.str (tx r)),U]/\(T.cps.toList.take i).foldl fB ([],[])=(d,r)/\d.length<=2*i/\r.length<=i/\H' a=some (.lst (d.map λz=>V.str (tx z)))/\bp a X H');refine⟨_,rfl,T,rfl,d4 T.cps.size Y ⟨[],[],none,rfl,rfl,zQ04 _,zQ04 _,h1,λ_ _ _ h=>h⟩ ?_ ?_⟩
 ·rintro i W I hi⟨d,r,U,rfl,J,hd,hr',m,G⟩;refine⟨hi,?_⟩;rintro x' p⟨rfl,c,hc,rfl⟩;have lT:T.cps.toList[i]?=some c:=by rw[Array.getElem?_toList];exact hc
  have hn:c≠10:=GA c (rW lT);have R:(T.cps.toList.take (i+1)).foldl fB ([],[])=fB (d,r) c:=by rw[List.take_succ,lT,Option.toList_some,List.foldl_append,J];rfl
  have second:∀(d':List (List Nat))(l:List Nat)(u:Hp)(C:Ends),C.nx=Y (i+1)->(d'=if c=40\/c=41\/c=32 then fX d r else d)->(l=if c=40\/c=41\/c=32 then[]else r)->u a=some (.lst (d'.map λz=>V.str (tx z)))->bp a X u->Qa (zT (JO (λx y H Q=>∃i j,x=V.str i/\y=V.str j/\Q (V.bl !(Builtin.Str.occurrences j i 0 j.length 1).isEmpty) H) (mq 3) (tC (V.str "()")))) (Mw (tBM K "list" zH (mq 1) (d9 (mq 3) sO))) (Qa (zT (JO rNe (mq 3) (tC (V.str " ")))) (PY (JO (λx y H Q=>∃i j,x=V.str i/\y=V.str j/\i.length+j.length<=sizeLine/\Q (V.str (i++j)) H) (mq 2) (mq 3)) (sZ 2)) Ng) C [some (.str T),some (.ref a),some (.str (tx l)),some (.str ⟨#[c]⟩)] u:=by
   intro d' l u C O v B h4 S;have Z:T.cps.size<=100000:=hT;have JK:(fX d r).length<=d.length+1:=by unfold fX;split<;>simp
   have F:=Qv hn;refine⟨_,rfl,_,_,rfl,rfl,_,rfl,?_⟩;rw[in2];refine bD (λe=>?_) (λe=>?_)
   ·have e:c=40\/c=41:=of_decide_eq_true e;have k:c=40\/c=41\/c=32:=e.elim .inl λe=> .inr (.inl e);rw[if_pos k]at v B;subst v B;refine⟨_,rfl, .inl ⟨rfl,_,aZ.of h4⟩,_,rfl,a,_,_,rfl,rfl,h4,(by rw[br,show sizeLine=16777216 by decide];omega),?_⟩;rw[O];refine⟨fX d r++[[c]],[],_,rfl,?_,by rw[cE];show _+1<=_;omega,zQ27 _,?_,λb o hb h=>by rw[bb hb];exact S b o hb h⟩;·rw[R];unfold fB;rw[if_pos e,if_pos (by rw[F];exact decide_eq_true k)]
    ·rw[aj,cO];rfl
   ·have e:¬(c=40\/c=41):=of_decide_eq_false (Bool.eq_false_iff.mpr e);refine⟨_,rfl,rfl,_,rfl,bD (λg=>?_) (λg=>?_)⟩
    ·have N:c≠32:=λz=>by have g:(!decide (V.str (⟨#[c]⟩:Str)=V.str " "))=true:=g;rw[z]at g;exact absurd g (by decide+kernel)
     have k:¬(c=40\/c=41\/c=32):=λh=>h.elim (λh=>e (.inl h)) λh=>h.elim (λh=>e (.inr h)) N;rw[if_neg k]at v B;subst v B;refine⟨_,rfl,_,rfl,_,_,rfl,rfl,?_,?_⟩;·rw[show(tx l).length=l.length by rw[str_len];rfl,show(⟨#[c]⟩:Str).length=1 from rfl,show sizeLine=16777216 by decide];omega
     show C.nx _ u;rw[O];refine⟨d',l++[c],some (.str ⟨#[c]⟩),?_,?_,by omega,by rw[cE];show _+1<=_;omega,h4,S⟩;·show[some (V.str T),some (V.ref a),some (V.str (tx l++⟨#[c]⟩)),some (V.str ⟨#[c]⟩)]=_;rw[show tx l++(⟨#[c]⟩:Str)=tx (l++[c])by show(⟨_⟩:Str)=⟨_⟩;congr 1;show l.toArray++#[c]=_;simp]
     ·rw[R];unfold fB;rw[if_neg e,if_neg (by rw[F];simp only[decide_eq_true_eq];exact k),if_neg (by rw[F];simp only[decide_eq_true_eq];exact k)]
    ·have N:c=32:=by
      by_cases z:c=32;·exact z
      ·refine absurd ?_ g;show(!decide (V.str (⟨#[c]⟩:Str)=V.str " "))=true;rw[decide_eq_false λh=>z (by injection h with h;have :=congrArg (λz:Str=>z.cps.toList) h;rw[show(Str.ofString " ").cps.toList=[32]by decide+kernel]at this;simpa using this)];rfl
     have k:c=40\/c=41\/c=32:= .inr (.inr N);rw[if_pos k]at v B;subst v B;show C.nx _ u;rw[O];refine⟨fX d r,[],_,rfl,?_,by omega,zQ27 _,h4,S⟩;rw[R];unfold fB;rw[if_neg e,if_pos (by rw[F];exact decide_eq_true k),if_pos (by rw[F];exact decide_eq_true k)]
  refine⟨_,rfl,_,_,rfl,rfl,_,rfl,?_⟩;rw[in3];refine bD (λe=>?_) (λe=>?_)
  ·have e:c=40\/c=41\/c=32:=of_decide_eq_true e;refine⟨_,rfl,rfl,_,rfl,bD (λg=>?_) (λg=>?_)⟩
   ·have n:r≠[]:=λz=>by have g:(!decide (V.str (tx r)=V.str ""))=true:=g;rw[(vY r).mpr z]at g;exact absurd g (by decide+kernel)
    have Z:T.cps.size<=100000:=hT;refine⟨_,rfl, .inl ⟨rfl,_,aZ.of m⟩,_,rfl,a,_,_,rfl,rfl,m,(by rw[br,show sizeLine=16777216 by decide];omega),?_⟩;refine second (fX d r) [] _ _ rfl (by rw[if_pos e]) (by rw[if_pos e]) ?_ (λb o hb h=>by rw[bb hb];exact G b o hb h);rw[aj];unfold fX;rw[if_neg (by simpa using n),cO];rfl
   ·have n:r=[]:=by
     by_cases z:r=[];·exact z
     ·refine absurd ?_ g;show(!decide (V.str (tx r)=V.str ""))=true;rw[decide_eq_false λe=>z ((vY r).mp (by injection e))];rfl
    refine second d r _ _ rfl (by rw[if_pos e,n];rfl) (by rw[if_pos e,n]) m G
  ·have e:¬(c=40\/c=41\/c=32):=of_decide_eq_false (Bool.eq_false_iff.mpr e);exact second d r _ _ rfl (by rw[if_neg e]) (by rw[if_neg e]) m G
 ·rintro W I⟨d,r,U,rfl,J,hd,hr',m,G⟩;refine⟨zQ04 _,?_⟩;have hsz:T.cps.size=T.cps.toList.length:=by simp
  rw[hsz,List.take_length]at J;have Zj:fX d r=gu T.cps.toList:=by rw[<-Pl,J]
  have Z:T.cps.size<=100000:=hT;have sA:aN H I:=λc o h=>G c o (aC h L) (t1 c o h);have fin:∀p:Hp,bp a I p->p a=some (.lst ((fX d r).map λz=>V.str (tx z)))->Q (.ref a) p:=λp s3 h3=>by refine q a p L (λc o h=>s3 c o (aC h L) (sA c o h)) ?_;rw[h3,Zj,wS,List.map_map];rfl
  refine⟨_,rfl,rfl,_,rfl,bD (λc=>?_) (λc=>?_)⟩
  ·have n:r≠[]:=λz=>by have c:(!decide (V.str (tx r)=V.str ""))=true:=c;rw[(vY r).mpr z]at c;exact absurd c (by decide+kernel)
   refine⟨_,rfl, .inl ⟨rfl,_,aZ.of m⟩,_,rfl,a,_,_,rfl,rfl,m,(by rw[br,show sizeLine=16777216 by decide];omega),_,rfl,fin _ (bp.upd _) ?_⟩;rw[aj];unfold fX;rw[if_neg (by simpa using n),cO];rfl
  ·have n:r=[]:=by
    by_cases z:r=[];·exact z
    ·refine absurd ?_ c;show(!decide (V.str (tx r)=V.str ""))=true;rw[decide_eq_false λe=>z ((vY r).mp (by injection e))];rfl
   refine⟨_,rfl,fin I (λ_ _ _ h=>h) ?_⟩;rw[m,n];rfl
end K56
end
section
namespace K56
open PySem L2 L3 KM PyProof.Rows
noncomputable def ue:List Str:=["a","b","d","lookalikeone","lookalikeonz","funs","u","v","w","x","y","z"]
noncomputable def Q5(r:Nat):List Str:=(List.range 12).map λk=>(ue[(r+5*k)%12]?).getD Str.empty
noncomputable def Qf(r:Nat):List Str:=(List.range 26).map (λk=>lL ((r+5*k)%26))++(List.range 26).map λi=>"a"++lL i
theorem NG:((List.range 12).all λr=>decide (Q5 r).Nodup&&(Q5 r).all λz=>isNm z)=true:=by decide+kernel
theorem Fp:∀i:Nat,i<26->isNm (lL i)=true/\isNm ("a"++lL i)=true:=by decide+kernel
theorem Jj{i j:Nat}(h:lL i=lL j):i=j:=by have :=congrArg (λz:Str=>z.cps.toList) h;simp[lL]at this;omega
theorem Eg{i j:Nat}(h:Str.ofString "a"++lL i="a"++lL j):i=j:=by have :=congrArg (λz:Str=>z.cps.toList) h;rw[fh,fh]at this;simp[lL]at this;omega
theorem NT(r:Nat):(Qf r).Nodup:=by
 unfold Qf;refine List.nodup_append.mpr ⟨?_,?_,?_⟩;·refine List.Pairwise.map _ (λa b(h:a≠b/\a<26/\b<26)=>?_) (List.Pairwise.imp_of_mem (R:=λa b=>a≠b) (λ{a b}ha hb h=>⟨h,List.mem_range.mp ha,List.mem_range.mp hb⟩) List.nodup_range);intro e;have :=Jj e;obtain⟨h1,h2,h3⟩:=h;omega
 ·refine List.Pairwise.map _ (λa b(h:a≠b)e=>h (Eg e)) List.nodup_range
 ·intro a ha b hb e;obtain⟨i,_,rfl⟩:=List.mem_map.mp ha;obtain⟨j,_,rfl⟩:=List.mem_map.mp hb;have :=congrArg (λz:Str=>z.cps.toList.length) e;simp[fh,lL]at this;revert this;decide+kernel
theorem P7(r:Nat):∀z,z∈Qf r->isNm z=true:=by
 intro z a;rcases List.mem_append.mp a with a|a;·obtain⟨i,_,rfl⟩:=List.mem_map.mp a;exact(Fp _ (Nat.mod_lt _ (by decide))).1
 ·obtain⟨i,hi,rfl⟩:=List.mem_map.mp a;exact(Fp _ (List.mem_range.mp hi)).2
end K56
end
section
namespace K56
open PySem L2 L3 KM PyProof.Rows
seal L2.PE L2.PS L2.kq L2.PT L2.PW L2.PA L2.PG L2.zc L2.PI L2.PC L2.PO L2.Fg L2.PK L3.Cy L3.PH L3.PB
variable{P:Program}{w:World}{K:PySem.W.Frag}{mg:Str->Option Value}{base:Heap}{t:uw}
theorem OC(F:List Str):∀(W:List Str),(List.range W.length).filterMap (λi=>if(W[i]?).getD Str.empty∉F then some (V.str ((W[i]?).getD Str.empty))else none)=(W.filter λz=>decide (z∉F)).map V.str:=by intro W;induction W with|nil=>rfl|cons z W a=>rw[cU,List.range_succ_eq_map,List.filterMap_cons,List.filterMap_map];have e:((λi=>if((z::W)[i]?).getD Str.empty∉F then some (V.str (((z::W)[i]?).getD Str.empty))else none)∘Nat.succ)=λi=>if(W[i]?).getD Str.empty∉F then some (V.str ((W[i]?).getD Str.empty))else none:=rfl;rw[e,a];by_cases c:z∈F<;>simp[c]
def Vo:Sp:=λvs H Q _=>∃(c m:Int)(kp:Addr)(F:List Str),vs=[.int c, .int m, .ref kp]/\0<=m/\m<=52/\H kp=some (.lst (F.map V.str))/\∀(a:Addr)(N:List Str)(H':Hp),aN H H'->H' a=some (.lst (N.map V.str))->H a=none->N.length<=52->N.Nodup->(∀z,z∈N->isNm z=true/\z∉F)->Q (.ref a) H'
theorem cL:aT ["_law_cell","_law_many","_law_kept_here","_law_some","_law_letters"] ["_law_cell","_law_many","_law_kept_here"] (aw cn):=⟨rfl,rfl,rfl,by decide+kernel,rfl,by decide+kernel,by decide+kernel⟩
theorem yr(D:Df K mg "_law_names" cn ["_law_cell","_law_many","_law_kept_here"])(M:Mg mg t):bB P w K mg bJ "_law_names" (131) ["_law_cell","_law_many","_law_kept_here"] Vo:=by
 refine D.ok cL (λvs H Q E h=>?_) (λbase f dh A outer s H vs Q E hr h=>?_);·obtain⟨c,m,kp,F,rfl,_⟩:=h;rfl
 obtain⟨c,m,kp,F,rfl,hm0,hm,hk,q⟩:=h;have hu:=ql hr;refine⟨_,(af (aE (i:=3) cL.nd rfl (cI rfl) (bw (aa ak (aa ak (aa ak (aa ak (aa ak (aa ak (aa ak (aa ak (aa ak (aa ak (aa ak (aa ak ag)))))))))))))) (af (aE (i:=3) cL.nd rfl (cI rfl) (gf (N':=["_law_k","_law_some","_law_cell"]) (own:=1) (fr:=[3,0]) rfl (iV (N:=["_law_cell","_law_many","_law_kept_here","_law_some","_law_letters"]) (sc:=aw cn) rfl rfl rfl (by decide+kernel)) (fR rfl M.fI (aa ah ag)) (eI (by decide)) (λ_ _ _=>(bu (i:=0) (show List.Nodup (["_law_k","_law_some","_law_cell"]:List Str)by decide+kernel) rfl (Or.inl rfl))) (λ_ _ _=>ik) (λ_ _ _=>(aH (Gu (K:=K)) (pv 1) (aG cQ (aG cq (pv 2) (aG ER ah (pv 0))) ah) (λ_ _=>rfl))))) (af (aU (av bc (aG cQ (pv 0) ah) ah (ay _)) (af (aE (i:=4) cL.nd rfl (cI rfl) ak) (af (aE (i:=3) cL.nd rfl (cI rfl) (aG rH (gf (N':=["_law_k","_law_letters","_law_cell"]) (own:=1) (fr:=[4,0]) rfl (iV (N:=["_law_cell","_law_many","_law_kept_here","_law_some","_law_letters"]) (sc:=aw cn) rfl rfl rfl (by decide+kernel)) (fR rfl M.fI (aa ah ag)) (eI (by decide)) (λ_ _ _=>(bu (i:=0) (show List.Nodup (["_law_k","_law_letters","_law_cell"]:List Str)by decide+kernel) rfl (Or.inl rfl))) (λ_ _ _=>ik) (λ_ _ _=>(aH ug (pv 1) (aG cQ (aG cq (aG dI (pv 2) ah) (aG ER ah (pv 0))) ah) (λ_ _=>rfl)))) (gf (N':=["_law_sign"]) (own:=1) (fr:=[]) rfl (iV (N:=["_law_cell","_law_many","_law_kept_here","_law_some","_law_letters"]) (sc:=aw cn) rfl rfl rfl (by decide+kernel)) (kx (pv 4)) (eI (by decide)) (λ_ _ _=>(bu (i:=0) (show List.Nodup (["_law_sign"]:List Str)by decide+kernel) rfl (Or.inl rfl))) (λ_ _ _=>ik) (λ_ _ _=>(aG c_ ak (pv 0)))))) (ai (aE (i:=1) cL.nd rfl (cI rfl) (aH bH (bw (aa (aG cq ah (aG cQ (aG dI (pv 0) ah) ah)) (aa ah ag))) (aG cQ (aG dI (pv 0) ah) ah) (λ_ _=>rfl)))))) aB) (ai (az (eR ip (gf (N':=["_law_word","_law_kept_here"]) (own:=1) (fr:=[2]) rfl (iV (N:=["_law_cell","_law_many","_law_kept_here","_law_some","_law_letters"]) (sc:=aw cn) rfl rfl rfl (by decide+kernel)) (nE (pv 3)) (eI (by decide)) (λ_ _ _=>(bu (i:=0) (show List.Nodup (["_law_word","_law_kept_here"]:List Str)by decide+kernel) rfl (Or.inl rfl))) (λ_ _ _=>(JT (av (sU (K:=K)) (pv 0) (pv 1) rfl))) (λ_ _ _=>(pv 0))) ix (du (pv 1)))))))),?_⟩;try dsimp only[lB,d5]
 refine rJ ?_;intro _ _ _ _;rename_i Y v4 v3 v2;have rest:∀(pw:Addr)(W:List Str)(g:Nat)(lt:Option V)(p:Hp),aN H p->p pw=some (.lst (W.map V.str))->W.length<=100->W.Nodup->(∀z,z∈W->isNm z=true)->g<=52->v4 Y [some (.int c),some (.int (g:Nat)),some (.ref kp),some (.ref pw),lt] p:=by
  intro pw W g lt p s1 L hl D5 w4 Ww;have Wb:=s1 _ _ hk;refine⟨_,rfl,pw,rfl,⟨_,aZ.of L⟩,λy J=>?_⟩;refine Hy W.length (λi=>if(W[i]?).getD Str.empty∉F then some (V.str ((W[i]?).getD Str.empty))else none) J (big (by omega)) (λi j hi s2=>?_) λj s2 h2=>?_
  ·obtain⟨z,d⟩:∃z,W[i]?=some z:=⟨_,zQ03 hi⟩;have hq:aZ K j pw (W.map V.str):=aZ.of (s2 _ _ L);have Vr:(W.map V.str)[i]?=some (.str z):=by rw[fi,d];rfl
   refine⟨⟨_,_,hq,Vr⟩,?_⟩;rintro X l⟨rfl,hy⟩R R0 b hR0;have hx:=hy _ hq;rw[Vr]at hx;cases hx;rw[d]at b hR0;refine⟨_,rfl,_,rfl,kp,_,rfl, .inl (aZ.of (s2 _ _ Wb)),rfl,dg F,_,rfl,?_⟩;show if(!Ja (.str z) (F.map V.str))=true then _ else _;rw[gR];by_cases c:z∈F;·rw[decide_eq_true c];exact cS (hR0 l (by rw[Option.getD_some,if_neg (λh=>h c)]) (aN.refl _))
   ·rw[decide_eq_false c];exact b9 ⟨_,rfl,b _ l (by rw[Option.getD_some,if_pos c]) (aN.refl _)⟩
  ·rw[OC]at h2;refine⟨⟨_,aZ.of (s2 _ _ L),by rw[br];exact zQ04 _⟩,_,rfl,_,rfl,y,_,rfl,aZ.of h2,λS v=>?_⟩;rw[A3,<-List.map_take];have t3:=aq v (.lst (((W.filter λz=>decide (z∉F)).take g).map V.str));refine q S ((W.filter λz=>decide (z∉F)).take g) _ (s1.trans (s2.trans t3)) aj (s1.free (s2.free v)) (by rw[iP];omega) ((List.take_sublist _ _).nodup (D5.filter _)) λz d=>?_;have d:=List.mem_filter.mp (List.mem_of_mem_take d);exact⟨w4 z d.1,of_decide_eq_true d.2⟩
 obtain⟨g,rfl⟩:∃g:Nat,m=(g:Int):=⟨m.toNat,by omega⟩;have n1:(ue.map V.str).length=12:=by decide+kernel
 refine⟨(gH rfl),λo oq=>?_⟩;have t1:=aq oq (.lst (ue.map V.str));have h1:(upd H o (.lst (ue.map V.str))) o=some (.lst (ue.map V.str)):=aj;show v2 Y [some (.int c),some (.int (g:Nat)),some (.ref kp),some (.ref o),none] (upd H o (.lst (ue.map V.str)));generalize upd H o (.lst (ue.map V.str))=p at t1 h1⊢;obtain⟨r,Y6,hrc⟩:∃r:Nat,r<12/\c%12=(r:Int):=⟨(c%12).toNat,by omega,by omega⟩;refine⟨12,rfl,by decide,by decide,λy J=>?_⟩;refine eF 12 (λk=>V.str ((ue[(r+5*k)%12]?).getD Str.empty)) J (by decide) (λk j n s2=>⟨n,?_⟩) λj s2 h2=>⟨zQ04 _,?_⟩
 ·rintro X l⟨rfl,rfl⟩R b;have I:(c+5*(0+(k:Int)))%12=(((r+5*k)%12:Nat):Int):=by omega
  obtain⟨z,d⟩:∃z,ue[(r+5*k)%12]?=some z:=⟨_,zQ03 (show(r+5*k)%12<12 by omega)⟩;have b:=b l (aN.refl _);rw[d,Option.getD_some]at b;refine⟨_,rfl,_,rfl,_,rfl,_,_,rfl,rfl, .inl ⟨by decide,by decide⟩,_,_,rfl,rfl,_,_,rfl,rfl,(by show(0:Int)<12;decide),o,_,_, .str z,rfl,rfl,aZ.of (s2 _ _ h1),?_,b⟩;rw[I];exact aF (by rw[fi,d];rfl)
 have ZO:j y=some (.lst ((Q5 r).map V.str)):=by rw[h2,Q5,List.map_map];rfl
 have O:=List.all_eq_true.mp NG r (List.mem_range.mpr Y6);rw[bE,decide_eq_true_eq,List.all_eq_true]at O;have QV:=t1.trans s2;refine⟨_,rfl,_,_,rfl,rfl,(by show(0:Int)<6;decide),rfl,_,rfl,bD (λcc=>?_) (λ_=>?_)⟩
 ·obtain⟨a,aaf,aad⟩:∃a:Nat,a<26/\c/6%26=(a:Int):=⟨(c/6%26).toNat,by omega,by omega⟩;refine⟨26,rfl,by decide,by decide,λS v=>?_⟩;refine eF 26 (λk=>V.str (lL ((a+5*k)%26))) v (by decide) (λk l n s3=>⟨n,?_⟩) λl s3 h3=>⟨zQ04 _,?_⟩
  ·rintro X H4⟨rfl,rfl⟩R b;have I:(c/6+5*(0+(k:Int)))%26=(((a+5*k)%26:Nat):Int):=by omega
   refine⟨_,rfl,_,rfl,_,_,rfl,rfl,⟨by decide,by decide⟩,_,rfl,_,_,rfl,rfl, .inl ⟨by decide,by decide⟩,_,_,rfl,rfl,_,_,rfl,rfl,(by show(0:Int)<26;decide),gh,_,_,rfl,rfl,(by decide+kernel),?_,b H4 (aN.refl _)⟩;rw[I];exact aF (by rw[Array.getElem?_toList];exact rZ _ (Nat.mod_lt _ (by decide)))
  refine⟨_,rfl,gh,rfl,λp4 XI=>?_⟩;refine eF 26 (λi=>V.str ("a"++lL i)) XI (by decide) (λk G n T=>⟨by show k<gh.cps.size;rw[fA];exact n,?_⟩) λG T h5=>⟨by show gh.cps.size<=26;rw[fA];exact zQ04 _,?_⟩;·rintro X u⟨rfl,ch,hc,rfl⟩R b;rw[rZ k n]at hc;cases hc;exact⟨_,rfl,_,_,rfl,rfl,(by show 1+1<=sizeLine;decide),b u (aN.refl _)⟩
  refine⟨S,p4,_,_,rfl,rfl,T _ _ h3,h5,(by rw[br,br,List.length_range];decide),λB Ik=>?_⟩;have t6:=aq Ik (.lst ((List.range 26).map (λk=>V.str (lL ((a+5*k)%26)))++(List.range 26).map λi=>V.str ("a"++lL i)));have h6:(upd G B (.lst ((List.range 26).map (λk=>V.str (lL ((a+5*k)%26)))++(List.range 26).map λi=>V.str ("a"++lL i)))) B=some (.lst ((Qf a).map V.str)):=by rw[aj,Qf,cO,List.map_map,List.map_map];rfl
  generalize upd G B (.lst ((List.range 26).map (λk=>V.str (lL ((a+5*k)%26)))++(List.range 26).map λi=>V.str ("a"++lL i)))=u at t6 h6⊢;have hA0:=Int.emod_nonneg (c/156) (show(10:Int)≠0 by decide);have hA1:=Int.emod_lt_of_pos (c/156) (show(0:Int)<10 by decide);refine⟨_,rfl,_,_,rfl,rfl,⟨by decide,by decide⟩,_,_,rfl,rfl,(by show(0:Int)<10;decide),_,_,rfl,rfl,(gH rfl),λC U5=>?_⟩;have U:=aq U5 (.lst [V.int (22+c/156%10), .int 52]);have Z:(upd u C (.lst [V.int (22+c/156%10), .int 52])) C=some (.lst [V.int (22+c/156%10), .int 52]):=aj;generalize upd u C (.lst [V.int (22+c/156%10), .int 52])=H7 at U Z⊢;obtain⟨x,hm2,IB⟩:∃x:Nat,x<=52/\gP [V.int (22+c/156%10),V.int 52] (c/6%2)=some (.int ((x:Nat):Int)):=by
   rcases(show c/6%2=0\/c/6%2=1 by omega)with e|e;·exact⟨(22+c/156%10).toNat,by omega,by rw[e,show(((22+c/156%10).toNat:Nat):Int)=22+c/156%10 by omega];rfl⟩
   ·exact⟨52,by omega,by rw[e];rfl⟩
  refine⟨_,rfl,_,_,rfl,rfl,⟨by decide,by decide⟩,_,_,rfl,rfl,(by show(0:Int)<2;decide),C,_,_,_,rfl,rfl,aZ.of Z,IB,?_⟩;exact rest B (Qf a) x (some (.str gh)) H7 (QV.trans (s3.trans (T.trans (t6.trans U)))) (U _ _ h6) (by rw[Qf,cE,br,br,List.length_range];decide) (NT a) (P7 a) hm2
 ·exact rest y (Q5 r) g none j QV ZO (by rw[Q5,br,List.length_range];decide) O.1 O.2 (by omega)
end K56
end
section
namespace L3
open PySem PySem.Builtin PySem.Builtin.Str PySem.StrLaws
noncomputable def dr(a b:Nat):Nat->List Nat->List Nat|_,[]=>[]|p,x::r=>if x=a/\r.head?=some b then p::dr a b (p+1) r else dr a b (p+1) r
theorem Dw(x:Str)(a b i:Nat):(i+(⟨#[a,b]⟩:Str).length<=x.length/\subAt x ⟨#[a,b]⟩ i=true)↔(x.cps.toList.drop i).head?=some a/\(x.cps.toList.drop (i+1)).head?=some b:=by rw[subAt_eq,show(⟨#[a,b]⟩:Str).length=2 from rfl,show x.length=x.cps.toList.length by simp[Str.length]];have hl:(x.cps.toList.drop i).length=x.cps.toList.length-i:=ko;rw[<-List.drop_drop];cases hd:x.cps.toList.drop i with|nil=>simp|cons p r=>rw[hd,cU]at hl;cases r with|nil=>simp|cons q r=>rw[cU]at hl;have c:x.cps.toList.length=x.cps.size:=Array.length_toList;simp;lia
theorem qq(x:Str)(a b hi limit:Nat)(d:a≠b)(hh:hi=x.length)(hl:hi<limit):∀(m lo:Nat)(st:Array Nat×Nat),lo+m=hi+1->st.1.size<=lo->(st.2<=lo\/(st.2=lo+1/\(x.cps.toList.drop lo).head?≠some a))->(forIn (m:=Id) (List.range' lo m) st (occBody x ⟨#[a,b]⟩ hi limit)).run.1.toList=st.1.toList++dr a b lo (x.cps.toList.drop lo)
 |0,lo,st,h,h1,h2=>by have :x.cps.toList.drop lo=[]:=List.drop_eq_nil_of_le (by have :x.length=x.cps.toList.length:=(by simp[Str.length]);lia);rw[this];simp[dr]
 |m+1,lo,st,h,h1,h2=>by
  rw[List.range'_succ,List.forIn_cons];have two:=Dw x a b lo;have g:x.length=x.cps.toList.length:=by simp[Str.length]
  have f:dr a b lo (x.cps.toList.drop lo)=if(x.cps.toList.drop lo).head?=some a/\(x.cps.toList.drop (lo+1)).head?=some b then lo::dr a b (lo+1) (x.cps.toList.drop (lo+1))else dr a b (lo+1) (x.cps.toList.drop (lo+1)):=by rw[<-List.drop_drop (i:=1)];cases x.cps.toList.drop lo with|nil=>simp[dr]|cons p r=>simp[dr]
  rw[f];unfold occBody;by_cases c:(x.cps.toList.drop lo).head?=some a/\(x.cps.toList.drop (lo+1)).head?=some b;·have q:=two.mpr c;have e:st.2<=lo:=h2.elim id λz=>absurd c.1 z.2;rw[if_pos ⟨⟨⟨by lia,e⟩,by rw[hh];exact q.1⟩,q.2⟩,if_pos c];show(forIn (m:=Id) (List.range' (lo+1) m) (st.1.push lo,lo+2) (occBody x ⟨#[a,b]⟩ hi limit)).run.1.toList=_;rw[qq x a b hi limit d hh hl m (lo+1) (st.1.push lo,lo+2) (by lia) (by simp;lia) (.inr ⟨rfl,by rw[c.2];simp;exactλz=>d z.symm⟩)];simp
  ·have q:¬((((st.1.size<limit/\st.2<=lo)/\lo+(⟨#[a,b]⟩:Str).length<=hi)/\subAt x ⟨#[a,b]⟩ lo=true)):=λz=>c (two.mp ⟨by rw[<-hh];exact z.1.2,z.2⟩);rw[if_neg q,if_neg c];show(forIn (m:=Id) (List.range' (lo+1) m) (st.1,st.2) (occBody x ⟨#[a,b]⟩ hi limit)).run.1.toList=_;rw[qq x a b hi limit d hh hl m (lo+1) (st.1,st.2) (by lia) (by show st.1.size<=lo+1;lia) (.inl (by show st.2<=lo+1;rcases h2 with h2|h2<;>lia))]
theorem JN(x:Str)(a b:Nat)(c:a≠b):occurrences x ⟨#[a,b]⟩ 0 x.length (x.length+1)=dr a b 0 x.cps.toList:=by rw[occ_eq];have :=qq x a b x.length (x.length+1) c rfl (Nat.lt_succ_self _) (x.length+1) 0 (#[],0) (by lia) (by simp) (.inl (zQ04 _));simpa using this
noncomputable def dS(a b:Nat)(z:List Nat):List Nat->List Nat|[]=>[]|[x]=>[x]|x::y::r=>if x=a/\y=b then z++dS a b z r else x::dS a b z (y::r)
theorem Dz(x z:Str)(a b:Nat)(i:a≠b):∀(n:Nat)(l pre:List Nat)(A p:Nat),l.length<=n->x.cps.toList.drop A=pre++l->p=A+pre.length->(Str.join z (partsFrom x 2 A (dr a b p l))).cps.toList=pre++dS a b z.cps.toList l:=by
 intro n;induction n with
  |zero=>
   intro l pre A p hn hd f;have j:x.length=x.cps.toList.length:=by simp[Str.length]
   have :l=[]:=List.length_eq_zero_iff.mp (by lia);subst this;rw[dr,partsFrom,xS,gg]at*;have hl:pre.length<=x.length-A:=by rw[<-hd,ko];lia
   rw[hd,rj hl];simp[Str.join,dS]
  |succ n d=>
   intro l pre A p hn hd f;have j:x.length=x.cps.toList.length:=by simp[Str.length]
   match l,hn,hd with
    |[],hn,hd=>exact d [] pre A p (zQ27 _) hd f
    |[y],hn,hd=>rw[dr,if_neg (by simp),d [] (pre++[y]) A (p+1) (zQ27 _) (by rw[hd];simp) (by simp;lia)];simp[dS]
    |y::g::r,hn,hd=>
     rw[cU,cU]at hn;rw[dr,dS];by_cases c:y=a/\g=b
     ·rw[if_pos (by simpa using c),if_pos c,dr,if_neg (λz=>i (by rw[<-z.1,c.2])),partsFrom,xS,hd,f];have h:(pre++y::g::r).take (A+pre.length-A)=pre:=by rw[show A+pre.length-A=pre.length by lia,List.take_left'];rfl
      rw[h];have h3:x.cps.toList.drop (A+pre.length+2)=[]++r:=by rw[show A+pre.length+2=A+(pre.length+2)by lia,<-List.drop_drop,hd];simp
      have :=d r [] (A+pre.length+2) (A+pre.length+1+1) (by lia) h3 (by simp);obtain⟨q,k,e⟩:=partsFrom_ne x 2 (A+pre.length+2) (dr a b (A+pre.length+1+1) r);rw[e]at this⊢;simp[Str.join,PySem.Str.cps_append,this]
     ·rw[if_neg (by simpa using c),if_neg c,d (g::r) (pre++[y]) A (p+1) (by rw[cU];lia) (by rw[hd];simp) (by simp;lia)];simp
theorem Ji{a b:Nat}{z:List Nat}:∀(n:Nat)(l:List Nat)(p:Nat),l.length<=n->dr a b p l=[]->dS a b z l=l:=by
 intro n;induction n with
  |zero=>intro l p hn h;rw[List.length_eq_zero_iff.mp (show l.length=0 by lia)];rfl
  |succ n d=>
   intro l p hn h;match l,hn,h with
    |[],hn,h=>rfl
    |[y],hn,h=>rfl
    |y::e::r,hn,h=>
     rw[dr]at h;rw[cU]at hn;by_cases c:y=a/\e=b;·rw[if_pos (by simpa using c)]at h;cases h
     ·rw[if_neg (by simpa using c)]at h;rw[dS,if_neg c,d _ _ (by lia) h]
theorem lE(x z:Str)(a b:Nat)(c:a≠b):(Txt.replace x ⟨#[a,b]⟩ z).cps.toList=dS a b z.cps.toList x.cps.toList:=by
 unfold Txt.replace;rw[JN x a b c];have h1:(((⟨#[a,b]⟩:Str).length==0)&&(z.length==0))=false:=by rw[show(⟨#[a,b]⟩:Str).length=2 from rfl];rfl
 rw[h1,Bool.or_false];split;·rename_i h;have h:dr a b 0 x.cps.toList=[]:=List.isEmpty_iff.mp h;rw[Ji _ _ 0 (zQ04 _) h]
 ·rw[glued_eq_join,show(⟨#[a,b]⟩:Str).length=2 from rfl,partsBetween_eq];have :=Dz x z a b c _ x.cps.toList [] 0 0 (zQ04 _) (by simp) rfl;simpa using this
end L3
end
section
namespace K56
open PySem L2 L3 KM PyProof.Rows
theorem fQ{a b x:Nat}{z:List Nat}(h:x≠a)(R:List Nat):dS a b z (x::R)=x::dS a b z R:=by cases R with|nil=>rfl|cons y r=>rw[dS,if_neg λc=>h c.1]
theorem kb{a b:Nat}{z:List Nat}:∀(w R:List Nat),(∀c∈w,c≠a)->dS a b z (w++R)=w++dS a b z R|[],R,_=>rfl|x::w,R,h=>by rw[List.cons_append,fQ (h x (cT ..)),kb w R λc hc=>h c (dB _ hc)];rfl
theorem xG{a b:Nat}{z:List Nat}(R:List Nat):dS a b z (a::b::R)=z++dS a b z R:=by rw[dS,if_pos ⟨rfl,rfl⟩]
theorem Fy{a b x y:Nat}{z:List Nat}(h:y≠b)(R:List Nat):dS a b z (x::y::R)=x::dS a b z (y::R):=by rw[dS,if_neg λc=>h c.2]
noncomputable def jn:List (List Nat)->List Nat|[]=>[]|[w]=>w|w::u::r=>w++32::jn (u::r)
theorem jA(w:List Nat){W:List (List Nat)}(h:W≠[]):jn (w::W)=w++32::jn W:=by cases W with|nil=>exact absurd rfl h|cons u r=>rfl
theorem zE:∀(W W':List (List Nat)),W≠[]->W'≠[]->jn (W++W')=jn W++32::jn W'|[],_,h,_=>absurd rfl h|[w],W',_,h=>jA w h|w::u::r,W',_,h=>by rw[List.cons_append,jA w (by simp),zE (u::r) W' (by simp) h,jA w (by simp),fk];rfl
inductive Gt:List (List Nat)->List Nat->List Nat->Prop|word{z:List Nat}:z≠[]->(∀c∈z,brk c=false)->Gt [z] z z|two{W F T W' F' T'}:Gt W F T->Gt W' F' T'->Gt (W++W') (F++32::F') (T++32::T')|Gb{W F T}:Gt W F T->Gt ([40]::(W++[[41]])) (40::(F++[32,41])) (40::(T++[41]))
theorem JB{c:Nat}(h:brk c=false):c≠40/\c≠41/\c≠32/\c≠10:=by refine⟨?_,?_,?_,?_⟩<;>(rintro rfl;revert h;decide+kernel)
structure GtP(W:List (List Nat))(F T:List Nat):Prop where
 ne:W≠[]
 hd:∃c r,F=c::r/\c≠41
 f:∀R,dS 40 32 [40] (jn W++R)=F++dS 40 32 [40] R
 g:∀R,dS 32 41 [41] (F++R)=T++dS 32 41 [41] R
 w:gu T=W
 l1:(jn W).length<=3*T.length
 l2:F.length<=3*T.length
 l3:W.length<=T.length
 l4:(W.map (·.length)).sum<=T.length
 nl:∀c∈T,c≠10
theorem Gt.p{W:List (List Nat)}{F T:List Nat}(h:Gt W F T):GtP W F T:=by
 induction h with
  |@word z g h=>
   have h1:=λc hc=>JB (h c hc);refine⟨by simp,?_,λR=>kb z R λc hc=>(h1 c hc).1,λR=>kb z R λc hc=>(h1 c hc).2.2.1,wC h g,?_,?_,?_,?_,λc hc=>(h1 c hc).2.2.2⟩;·cases z with|nil=>exact absurd rfl g|cons c r=>exact⟨c,r,rfl,(h1 c (cT ..)).2.1⟩
   ·show z.length<=_;omega
   ·omega
   ·have :=List.length_pos_iff.mpr g;show 1<=_;omega
   ·simp
  |@two W F T W' F' T' _ _ a b=>
   obtain⟨c,r,e,hc⟩:=b.hd;have f:=zE W W' a.ne b.ne;have a1:=a.l1;have a2:=a.l2;have a3:=a.l3;have a4:=a.l4;have m:=b.l1;have n:=b.l2;have o:=b.l3;have p:=b.l4;have d:(T++32::T').length=T.length+T'.length+1:=by simp;omega
   refine⟨λz=>a.ne (List.append_eq_nil_iff.mp z).1,?_,λR=>?_,λR=>?_,by rw[HC,a.w,b.w],?_,?_,?_,?_,?_⟩;·obtain⟨i,l,j,k⟩:=a.hd;exact⟨i,l++32::F',by rw[j];rfl,k⟩
   ·rw[f,fk,a.f,List.cons_append,fQ (by decide),b.f,fk];rfl
   ·rw[fk,a.g,List.cons_append,e,List.cons_append,Fy hc,<-List.cons_append,<-e,b.g,fk];rfl
   ·rw[f,d];simp;omega
   ·rw[d];simp;omega
   ·rw[d];simp;omega
   ·rw[d,cO,List.sum_append];omega
   ·intro c hc;rcases List.mem_append.mp hc with hc|hc;·exact a.nl c hc
    ·rcases List.mem_cons.mp hc with rfl|hc;·decide
     ·exact b.nl c hc
  |@Gb W F T _ a=>
   have f:jn ([40]::(W++[[41]]))=40::32::(jn W++[32,41]):=by rw[jA _ (by simp),zE W _ a.ne (by simp)];rfl
   have a1:=a.l1;have a2:=a.l2;have a3:=a.l3;have a4:=a.l4;have d:(40::(T++[41])).length=T.length+2:=by simp
   refine⟨by simp,⟨40,_,rfl,by decide⟩,λR=>?_,λR=>?_,?_,?_,?_,?_,?_,?_⟩;·rw[f,List.cons_append,List.cons_append,xG,fk,a.f];show[40]++(F++dS 40 32 [40] (32::41::R))=_;rw[fQ (by decide),fQ (by decide)];simp
   ·rw[List.cons_append,fQ (by decide),fk,a.g];show 40::(T++dS 32 41 [41] (32::41::R))=_;rw[xG];simp
   ·show gu ([]++40::(T++41::[]))=_;rw[vA 40 (.inl rfl),vA 41 (.inr rfl),B2,List.nil_append,a.w]
   ·rw[f,d];simp;omega
   ·rw[d];simp;omega
   ·rw[d];simp;omega
   ·rw[d,cF,List.sum_cons,cO,List.sum_append];simp;omega
   ·intro c hc;rcases List.mem_cons.mp hc with rfl|hc;·decide
    ·rcases List.mem_append.mp hc with hc|hc;·exact a.nl c hc
     ·rw[List.mem_singleton.mp hc];decide
def GT(y:Str):Prop:=∃W F,Gt W F y.cps.toList
theorem uJ{z:Str}(h:isNm z=true):GT z:=by obtain⟨a,_,_,h1⟩:=kd h;exact⟨_,_, .word a λc hc=>B1 (h1 c hc)⟩
theorem Aj:∀(c:List Str)(x:Str),GT x->(∀y,y∈c->GT y)->GT (x++pe c)
 |[],x,h,_=>by obtain⟨W,F,g⟩:=h;refine⟨W,F,?_⟩;rw[fh,show(pe []).cps.toList=[]by decide+kernel,gg];exact g
 |z::a,x,h,b=>by
  have e:(x++pe (z::a)).cps.toList=x.cps.toList++32::(z++pe a).cps.toList:=by rw[fh,pe,fh,fh,fh,show(Str.ofString " ").cps.toList=[32]by decide+kernel,fk];rfl
  obtain⟨W,F,g⟩:=h;obtain⟨W',F',g'⟩:=Aj a z (b z (cT ..)) λy d=>b y (dB _ d);exact⟨_,_,by rw[e];exact .two g g'⟩
theorem JW{x:Str}{a:List Str}(h:GT x)(b:∀y,y∈a->GT y):GT ("("++Txt.join " " (x::a)++")"):=by obtain⟨W,F,g⟩:=Aj a x h b;refine⟨[40]::(W++[[41]]),40::(F++[32,41]),?_⟩;rw[gU,fh,fh,show(Str.ofString "(").cps.toList=[40]by decide+kernel,show(Str.ofString ")").cps.toList=[41]by decide+kernel,fk];exact .Gb g
theorem zf:∀x,x∈g7++[Str.ofString "nat","none"]->GT x:=by
 have all:((g7++[Str.ofString "nat","none"]).all λx=>!x.cps.toList.isEmpty&&x.cps.toList.all λc=>!brk c)=true:=by decide+kernel
 intro x a;have :=List.all_eq_true.mp all x a;simp only[bE,Bool.not_eq_true',List.all_eq_true,List.isEmpty_eq_false_iff]at this;exact⟨_,_, .word this.1 this.2⟩
theorem ON{m:Nat}(h:m<60):GT (iA m):=by
 have all:((List.range 60).all λm=>!(iA m).cps.toList.isEmpty&&(iA m).cps.toList.all λc=>!brk c)=true:=by decide+kernel
 have :=List.all_eq_true.mp all m (List.mem_range.mpr h);simp only[bE,Bool.not_eq_true',List.all_eq_true,List.isEmpty_eq_false_iff]at this;exact⟨_,_, .word this.1 this.2⟩
theorem HN:∀(n:Nat)(A L:List Str)(d:D),Wf d->depth d<n->depth d<60->iz n A.length d->Ok A L->depth d<=L.length->(∀z,z∈bf n d->isNm z=true)->GT (ft n A L d)
 |0,A,L,d,_,h,_,_,_,_,_=>absurd h (Nat.not_lt_zero _)
 |n+1,A,L,d,F,hd,N,hcl,ok,hdl,v=>by
  obtain⟨x,ps,k,rfl,wf,O⟩:=hV F;obtain⟨sh,t,G,j,H,l,I,J,r,B,u⟩:=bA wf;have c:=List.all_eq_true.mp qw _ (ji B);by_cases hv:x="var"
  ·subst hv;rw[de]at t;cases t;rw[qu]at j l;obtain⟨b,rfl⟩:∃b,ps=[b]:=by cases ps with|nil=>simp at l|cons b rest=>cases rest with|nil=>exact⟨b,rfl⟩|cons _ _=>simp at l
   rw[bF,bE]at j;have hn:eQ b=true:=by simpa[hW]using j.1
   obtain⟨i,rfl⟩:∃i,b= .int i:=by cases b<;>first|exact⟨_,rfl⟩|simp[eQ]at hn
   have K:0<=i:=by simp[eQ]at hn;omega
   have hi:i<A.length:=by rw[iz,if_pos rfl]at hcl;exact hcl
   have e:ft (n+1) A L (.tup [.str "var", .int i])=(A[i.toNat]?).getD "":=by rw[ft,if_pos rfl]
   obtain⟨z,g⟩:∃z,A[i.toNat]?=some z:=⟨_,zQ03 (by omega)⟩;rw[e,g,Option.getD_some];exact uJ (ok.nm z (List.mem_append.mpr (.inl (rW g))))
  by_cases hn:x="name"
  ·subst hn;obtain⟨z,rfl⟩:=eJ wf;have e:ft (n+1) A L (.tup [.str "name", .str z])=z:=by rw[ft,if_neg hv,if_pos rfl]
   rw[e];exact uJ (v z (by unfold bf;rw[if_pos rfl];exact List.mem_singleton.mpr rfl))
  have e:ft (n+1) A L (.tup (.str x::ps))=match fL (n+1) (.tup (.str x::ps))with|some m=>iA m|none=>if ao x ps=[]then x else"("++Txt.join " " (x::((if f_ x BO then L.take 1 else[])++kN n A L x (ao x ps) (ao x ps).length))++")":=by
   conv=>lhs;unfold ft
   rw[if_neg hv,if_neg hn];rfl
  have o:ao x ps=ps:=by unfold ao;rw[if_neg (by unfold d8;simp[hv,hn])]
  rw[o]at e u;rw[e];cases s:fL (n+1) (.tup (.str x::ps))with
   |some m=>have hm:=yf _ _ _ ⟨k,wf⟩ s;exact ON (by omega)
   |none=>
    show GT (if ps=[]then x else _);by_cases f:ps=[]
    ·rw[if_pos f];have hr:r=[]:=List.length_eq_zero_iff.mp (by rw[u,f];rfl);rw[if_pos hr]at c;have c:x∈(["nat","none","zero","var","name"]:List Str):=of_decide_eq_true c;simp only[zQ34,zQ16,or_false]at c;rcases c with rfl|rfl|rfl|rfl|rfl;·exact zf _ (by simp)
     ·exact zf _ (by simp)
     ·rw[show fL (n+1) (.tup (.str "zero"::ps))=some 0 by conv=>lhs;unfold fL;rw[if_neg (by decide+kernel),if_pos rfl]]at s;cases s
     ·exact absurd rfl hv
     ·exact absurd rfl hn
    ·rw[if_neg f];have C:x∈g7:=(zk wf (by rw[o];exact f)).1;refine JW (zf x (List.mem_append.mpr (.inl C))) λy a=>?_;rcases List.mem_append.mp a with a|a
     ·split at a;·exact uJ (ok.nm y (List.mem_append.mpr (.inr (List.mem_of_mem_take a))))
      ·cases a
     ·obtain⟨i,hi,rfl⟩:=List.mem_map.mp a;have hi:=List.mem_range.mp hi;obtain⟨p,w⟩:∃p,ps[i]?=some p:=⟨_,zQ03 hi⟩;have q:(ao x ps)[i]?=some p:=by rw[o];exact w
      obtain⟨E,P⟩:=c6 wf q;have M:=uA x i;rw[w,Option.getD_some];refine HN n _ _ p E (by omega) (by omega) ?_ (ok.next _) (by rw[ko];omega) λz g=>v z (jq hn q g);have :=wb hv hcl q;rw[cE,iP,Nat.min_eq_left (by omega),Nat.add_comm];exact this
theorem BE:∀(W:List (List Nat))(w:List Nat),(tx w++pe (W.map tx)).cps.toList=jn (w::W)
 |[],w=>by rw[fh,show(pe ([].map tx)).cps.toList=[]by decide+kernel,gg];rfl
 |z::a,w=>by
  have e:(tx w++pe ((z::a).map tx)).cps.toList=(tx w).cps.toList++32::(tx z++pe (a.map tx)).cps.toList:=by rw[fh,cF,pe,fh,fh,fh,show(Str.ofString " ").cps.toList=[32]by decide+kernel,fk];rfl
  rw[e,BE a z,jA w (by simp)];rfl
theorem again{T:Str}(h:GT T):(Txt.join " " (wS T.cps.toList)).length<=3*T.length/\(Txt.replace (Txt.join " " (wS T.cps.toList)) "( " "(").length<=3*T.length/\Txt.replace (Txt.replace (Txt.join " " (wS T.cps.toList)) "( " "(") " )" ")"=T/\((wS T.cps.toList).map (·.length)).sum<=T.length/\(wS T.cps.toList).length<=T.length/\∀c,c∈T.cps.toList->c≠10:=by
 obtain⟨W,F,g⟩:=h;have p:=g.p;have a:T.length=T.cps.toList.length:=by simp[Str.length]
 have d:(Txt.join " " (wS T.cps.toList)).cps.toList=jn W:=by rw[wS,p.w];cases W with|nil=>exact absurd rfl p.ne|cons w W=>rw[cF,gU];exact BE W w
 have b:(Txt.replace (Txt.join " " (wS T.cps.toList)) "( " "(").cps.toList=F:=by have :=lE (Txt.join " " (wS T.cps.toList)) "(" 40 32 (by decide);rw[show(Str.ofString "( ")=⟨#[40,32]⟩by decide+kernel,this,d,show(Str.ofString "(").cps.toList=[40]by decide+kernel];have :=p.f [];rw[gg]at this;rw[this];exact gg _
 refine⟨?_,?_,?_,?_,?_,p.nl⟩;·rw[show(Txt.join " " (wS T.cps.toList)).length=(Txt.join " " (wS T.cps.toList)).cps.toList.length by simp[Str.length],d,a];exact p.l1
 ·rw[show(Txt.replace (Txt.join " " (wS T.cps.toList)) "( " "(").length=(Txt.replace (Txt.join " " (wS T.cps.toList)) "( " "(").cps.toList.length by simp[Str.length],b,a];exact p.l2
 ·apply PySem.Str.ext';apply Array.ext';have :=lE (Txt.replace (Txt.join " " (wS T.cps.toList)) "( " "(") ")" 32 41 (by decide);rw[show(Str.ofString " )")=⟨#[32,41]⟩by decide+kernel,this,b,show(Str.ofString ")").cps.toList=[41]by decide+kernel];have :=p.g [];rw[gg]at this;rw[this];exact gg _
 ·rw[wS,p.w,List.map_map,a];refine cB (Nat.le_of_eq ?_) p.l4;congr 1
 ·rw[wS,p.w,br,a];exact p.l3
end K56
end
section
namespace L3
open PySem PySem.Spec PyProof.Rows L2
theorem zL:∀{cs:List Addr}{us:List Value},Vals (cs.map V.ref) us->us=cs.map Value.ref|[],_, .nil=>rfl|c::cs,_, .cons r t=>by cases r;rw[zL t];rfl
theorem tH{X:Cx}{K:PySem.W.Frag}{a C:Addr}{oe:Obj}(d:(a,oe)∈X.pn)(hc:oe.cls= .ref C)(c:X.K=K:=by rfl):eV X (.builtin "isinstance") (λxs H Q=>∃(tp:Addr)(cs:List Addr)(b:Bool),xs=[.ref a, .ref tp]/\qD K C/\H tp=some (.tup (cs.map V.ref))/\PySem.W.kitAny K (.ref C) (cs.map Value.ref)=some b/\Q (.bl b) H):=by subst c;intro pins s σ H xs us Q I r h;obtain⟨tp,cs,b,rfl,G,f,e,q⟩:=h;obtain⟨u,v,rfl,g,i⟩:=r.two;cases g;cases i;obtain⟨z,j,hv,⟨oc,od,k,Gi⟩,ho,hcl,n,hd⟩:=I.bV tp _ f;have :=zL hv;subst this;cases hcl;cases hd;exact PySem.W.kia_tup (kR G) I.lD ⟨oe,(I.pin (a,oe) (sD _ d)).1,hc⟩ ho e (λz=>nomatch z) λtk=>⟨.bl b,H,I.tok tk,rfl,q⟩
end L3
end
section
namespace K56
open PySem L2 L3 KM PyProof.Rows
seal L2.PE L2.PS L2.kq L2.PT L2.PW L2.PA L2.PG L2.zc L2.PI L2.PC L2.PO L2.Fg L2.PK L3.Cy L3.PH L3.PB
variable{P:Program}{w:World}{K:PySem.W.Frag}{mg:Str->Option Value}{base:Heap}{t:uw}
noncomputable def GG(t:uw):List Addr:=[t.Dry,t.Mn,t.Eh,t.Bq,t.FA,t.EB,t.Ge,t.Fh]
noncomputable def K8(t:uw):List Addr:=[t.Fi,t.tW,t.Bz,t.BM,t.ua]
structure Ek(K:PySem.W.Frag)(t:uw):Prop where
 nv:yK K t.bo
 ke:yK K t.ie
 c:qD K t.bo
 s2:PySem.W.subIn K (.ref t.bo) (.ref t.ie)=some true
 k1:PySem.W.kitOne K (.ref t.bo) (.type "ValueError")=some true
 k2:PySem.W.kitOne K (.ref t.bo) (.ref t.bo)=some true
 a1:PySem.W.kitAny K (.ref t.bo) ((GG t).map Value.ref)=some false
 a2:PySem.W.kitAny K (.ref t.bo) ((K8 t).map Value.ref)=some false
theorem AR:∀(n:Nat)(b:Int)(d:D)(k:Bool),dZ aY k d=true->(bC n b d).length<=aP d
 |0,b,d,k,wf=>by unfold bC;simp
 |n+1,b,d,k,wf=>by
  obtain⟨x,ps,rfl⟩:=gm wf;by_cases c:x="var"
  ·subst c;unfold bC;rw[if_pos rfl,(b0 wf).1];split;·split<;>simp
   ·simp
  ·have e:bC (n+1) b (.tup (.str x::ps))=((List.range (ao x ps).length).map λi=>bC n (b+se x i) (((ao x ps)[i]?).getD .bz)).flatten:=by
    conv=>lhs;unfold bC
    exact if_neg c
   rw[e,(b0 wf).1];have j:∀(l:List D)(g:Nat->List Int),(∀i p,l[i]?=some p->(g i).length<=aP p)->(((List.range l.length).map g).flatten).length<=(l.map aP).sum:=by intro l;induction l with|nil=>intro g _;simp|cons p l f=>intro g a;rw[cU,List.range_succ_eq_map,cF,List.flatten_cons,cE,List.map_map,cF,List.sum_cons];have a1:=a 0 p rfl;have a2:=f (λi=>g (i+1)) λi q e=>a (i+1) q (by simpa using e);exact Nat.add_le_add a1 a2
   refine cB (j (ao x ps) _ λi p e=>?_) (by omega);obtain⟨⟨h,m⟩,o⟩:=c6 wf e;rw[e];exact AR n _ p h m
theorem u6:∀z,z∈six->isNm z=true:=λz a=>List.all_eq_true.mp (show(six.all λz=>isNm z)=true by decide+kernel) z a
theorem FF{T:List Str}{z:Str}(h:z∈fc T 702):isNm z=true/\z∉T:=by unfold fc at h;obtain⟨h1,h2⟩:=List.mem_filter.mp h;obtain⟨i,hi,rfl⟩:=List.mem_map.mp h1;exact⟨KL (List.mem_range.mp hi),of_decide_eq_true h2⟩
theorem IX{T T':List Str}(h:∀z,z∈T↔z∈T'):fc T 702=fc T' 702:=by unfold fc;congr 1;funext z;apply decide_eq_decide.mpr;rw[h]
noncomputable def rg(N:List Str)(d:D):List Str:=(fc (l9 (N++bf 60 d)) 702).take (depth d)
noncomputable def fF(N:List Str)(d:D):Str:=ft 60 N (rg N d) d
structure yx(k:Bool)(N:List Str)(d:D):Prop where
 g:DF k 0 d
 dp:depth d<=40
 kn:aP d<=600
 nd:N.Nodup
 nm:∀z,z∈N->isNm z=true/\z∉bf 60 d
 HW:N.length<=52
theorem yx.rev{k:Bool}{N:List Str}{d:D}(h:yx k N d):yx k N.reverse d:=⟨h.g,h.dp,h.kn,List.pairwise_reverse.mpr (h.nd.imp λe=>Ne.symm e),λz a=>h.nm z (List.mem_reverse.mp a),by rw[List.length_reverse];exact h.HW⟩
theorem yx.tak{k:Bool}{N:List Str}{d:D}(h:yx k N d):(l9 (N++bf 60 d)).length<=100:=by have h1:=h.HW;unfold l9;rw[<-(rS (N++bf 60 d) [] rfl List.nodup_nil).1];refine cB (zN (Ns:=N++six) λz a=>?_) (by rw[cE,show six.length=6 from rfl];omega);rw[List.mem_append]at a⊢;exact a.imp id (h.g.nm 60 z)
theorem yx.sh{k:Bool}{N:List Str}{d:D}(h:yx k N d){H:Hp}{v:V}{c:Addr}{Q:VK}{E:XK}(r:Rep H d v)(hb:H c=some (.lst (N.map V.str)))(q:(∀z,z∈bC 60 0 d->z<(N.length:Int))->∀H',aN H H'->Q (.str (fF N d)) H')(e:(∃z,z∈bC 60 0 d/\(N.length:Int)<=z)->∀H',aN H H'->E (.ref t.bo) none H'):wI t [v, .ref c] H Q E:=by
 have hd:=h.dp;have g:=h.kn;have f:=h.HW;have h1:=AR 60 0 d k h.g.wf;have h2:=uN 60 d;refine⟨d,v,c,N,six,rfl,r,⟨⟨k,h.g.wf⟩,by omega,by omega⟩,hb,λz b=>?_,by rw[show six.length=6 from rfl];omega,by omega,h.g.nm 60,λz b=>?_,by omega,by omega,λz b=>?_,q,e⟩;·have :=(kd (h.nm z b).1).2.1;omega
 ·have :=(kd (u6 z b)).2.1;omega
 ·have a:=h.g.fr 60 z b;exact⟨a.1,by have :=a.2;omega⟩
def tP:Sp:=λvs H Q _=>∃(d:D)(k:Bool)(v:V)(a:Addr)(N:List Str),vs=[v, .ref a]/\Rep H d v/\yx k N d/\H a=some (.lst (N.map V.str))/\(∃z,z∈bC 60 0 d/\(N.length:Int)<=z)/\∀H',aN H H'->Q (.bl true) H'
seal wI
theorem hZ:aT ["_law_thing_here","_law_names_here","e"] ["_law_thing_here","_law_names_here"] (aw dF):=⟨rfl,rfl,rfl,by decide+kernel,rfl,by decide+kernel,by decide+kernel⟩
theorem sT(D:Df K mg "_law_refused" dF ["_law_thing_here","_law_names_here"])(M:Mg mg t)(X:Ek K t)(m:bB P w K mg (sG P w) "shown" (141) ["thing","names"] (wI t)):bB P w K mg bJ "_law_refused" (143) ["_law_thing_here","_law_names_here"] tP:=by
 refine D.ok hZ (λvs H Q E h=>?_) (λbase f dh A outer s H vs Q E hr h=>?_);·obtain⟨d,k,v,x,N,rfl,_⟩:=h;rfl
 obtain⟨d,k,v,x,N,rfl,r,G,hb,c,q⟩:=h;have l:=X.ke;have hh:=hr.hd (by decide);refine⟨_,(af (NP rfl rfl rfl (Jf m hr.m rfl rfl (aa (pv 0) (aa (pv 1) ag))) (VF (i:=2) false hZ.nd rfl rfl l M.g_KeeperError rfl (λz=>nomatch z) (λa C oe b=>(af (aU (iK (aL (tH (K:=K) cT b) rfl M.bX bK (aa (pv 2) (aa (d3 (aa (bG M.g_Dry rfl) (aa (bG M.g_Great rfl) (aa (bG M.g_NoName rfl) (aa (bG M.g_NoPlace rfl) (aa (bG M.g_NoStep rfl) (aa (bG M.g_NoText rfl) (aa (bG M.g_NoWord rfl) (aa (bG M.g_Unlike rfl) ag))))))))) ag)))) (ai (az jN)) aB) (af (aU (iK (aL (tH (K:=K) cT b) rfl M.bX bK (aa (pv 2) (aa (d3 (aa (bG M.g_NotAll rfl) (aa (bG M.g_NotClosed rfl) (aa (bG M.g_NotSame rfl) (aa (bG M.g_NotSome rfl) (aa (bG M.g_TwiceTold rfl) ag)))))) ag)))) (ai (az jN)) aB) (ai (az (zz (aL (sY (K:=K) cT b) rfl M.bX bK (aa (pv 2) (aa (bG M.g_NoVariable rfl) ag))) (yT (aL (sY (K:=K) cT b) rfl M.bX bK (aa (pv 2) (aa (xl M.vI sr rfl) ag)))))))))) Nm)) (ai (az jN))),?_⟩;try dsimp only[lB,B]
 refine JU ?_;intro _ _;refine⟨_,rfl,_,rfl,?_⟩;refine G.sh r hb (λh=>?_) λ_ g s1=>⟨_,rfl,λa1 F=>⟨true,X.s2,b9 ?_⟩⟩;·obtain⟨z,c,hl⟩:=c;have :=h z c;omega
 refine⟨_,rfl,(gH rfl),λe o=>⟨e,GG t,false,rfl,X.c,aj,X.a1,_,rfl,cS ?_⟩⟩;have j:=s1.trans (aq o (.tup ((GG t).map V.ref)));show(λn=>_) (upd g e (.tup ((GG t).map V.ref)));generalize upd g e (.tup ((GG t).map V.ref))=n at j⊢;refine⟨_,rfl,(gH rfl),λy p=>⟨y,K8 t,false,rfl,X.c,aj,X.a2,_,rfl,cS ?_⟩⟩;refine⟨_,rfl, .ref t.bo, .ref t.bo,true,rfl,X.c,λu h=>h,X.k2,true,rfl,b9 ?_⟩;exact⟨_,rfl, .ty "ValueError", .type "ValueError",true,rfl,X.c,λu h=>h,X.k1,q _ (j.trans (aq p _))⟩
end K56
end
section
namespace L3
open PySem PySem.Spec PyProof.Rows L2 KM
section
variable{X:Cx}
noncomputable def WO(X:Cx)(e:Expr)(t:TE):Prop:=∀(pins:List (Addr×Obj))(s:Shared)(σ:L2.St)(H:Hp)(Q:VK),Inv X pins σ H s->t σ H Q->wpAny (model X.prog X.w) X.A (eval e X.env) (λv s'=>EP X pins σ Q v s'/\0<s'.toks) X.xe s
theorem O_{e:Expr}{t:TE}(h:WO X e t):PE X e t:=λpins s σ H Q I q=>bL (h pins s σ H Q I q) λv s' z=>z.1
noncomputable def VS(K:PySem.W.Frag)(z:Str)(t:TE):TE:=λσ H Q=>t σ H λx b=>∃(l:Addr)(a:List Str),x= .ref l/\aZ K b l (a.map V.str)/\(a.map (·.length)).sum+a.length*z.length<=16777216/\Q (.str (Txt.join z a)) b
theorem ES{z:Str}{j:Nat}{p apos cP:Pos}{e:Expr}{t:TE}(ha:PE X e t)(m:M1 X (.Constant (.str z) j p) "join" apos e cP):WO X (.Call (.Attribute (.Constant (.str z) j p) "join" apos) [e] [] cP) (VS X.K z t):=by intro pins s σ H Q I h;refine wpAny_Call_method m.base m.HW m.line PySem.F.plainAttrs_str PySem.F.slot_str_join PySem.F.type_str_join (Calls.Constant_str ?_);refine⟨typeIs_str _ _ _,(λb q=>nomatch q),?_⟩;rw[m.trees];refine Calls.callWith_builtin rfl (Calls.evalArgs_plain (Calls.spliced_cons (Om (Nat.succ_pos _) (ha pins _ σ H _ (I.tok _) h) λu s1 k1 k=>Calls.spliced_nil ?_)));obtain⟨x,c,d,g,l,i,rfl,hl,f,q⟩:=k;exact Om k1 (BC pins s1 σ c (.str z) [.ref l] _ [u] Q d ⟨_,rfl⟩ (.cons g .nil) ⟨z,l,i,rfl,rfl,hl,f,q⟩) λa s2 k2 n=>⟨n,k2⟩
theorem x9{o:Expr}{apos cP e f:Pos}{c d:Nat}{y z:Str}{to:TE}(ho:WO X o to)(j:(y==z)=false)(m:M2 X o "replace" apos (.Constant (.str y) c e) (.Constant (.str z) d f) cP):WO X (.Call (.Attribute o "replace" apos) [.Constant (.str y) c e, .Constant (.str z) d f] [] cP) (VG y z to):=by intro pins s σ H Q I h;refine wpAny_Call_method m.base m.HW m.line PySem.F.plainAttrs_str PySem.F.slot_str_replace PySem.F.type_str_replace (bL (ho pins s σ H _ I h) λu s1 r=>?_);obtain⟨⟨x,g,i,n,p,ex,hb,q1⟩,k1⟩:=r;subst ex;obtain⟨t,rfl⟩:=(show∃t,u=Value.str p t from n);refine⟨typeIs_str _ _ _,(λb q=>nomatch q),?_⟩;rw[m.trees];refine Calls.callWith_builtin rfl (Calls.evalArgs_plain (Calls.spliced_cons (Calls.Constant_str (Calls.spliced_cons (Calls.Constant_str (Calls.spliced_nil ?_))))));have l:s1.toks≠0:=Nat.pos_iff_ne_zero.mp k1;refine Om (Nat.succ_pos _) (SC.replace l (Nat.succ_ne_zero _) (zQ23 (Nat.lt_succ_self _)) j hb λt' k=>(⟨.str _,g,(i.tok _).tok _,⟨_,rfl⟩,q1⟩:EP X pins σ Q _ _)) λa s2 k2 v=>⟨v,k2⟩
end
end L3
end
section
namespace K56
open PySem L2 L3 KM PyProof.Rows
seal L2.PE L2.PS L2.kq L2.PT L2.PW L2.PA L2.PG L2.zc L2.PI L2.PC L2.PO L2.Fg L2.PK L3.Cy L3.PH L3.PB
variable{P:Program}{w:World}{K:PySem.W.Frag}{mg:Str->Option Value}{base:Heap}{t:uw}
theorem Er{H H':Hp}{a:Addr}{xs:List V}(h:aZ K H a xs)(s:aN H H'):aZ K H' a xs:=by
 rcases h with h|h;·exact .inl (h.imp (λh=>s _ _ h) λ⟨o,h⟩=>⟨o,s _ _ h⟩)
 ·exact .inr h
theorem Cb:∀(d F:List Str),F.Nodup->(dX F d).Nodup
 |[],F,h=>h
 |z::d,F,h=>by
  have e:dX F (z::d)=dX (if z∈F then F else F++[z]) d:=rfl;rw[e];refine Cb d _ ?_;split;·exact h
  ·rename_i c;exact List.nodup_append.mpr ⟨h,List.nodup_cons.mpr ⟨zQ16,List.nodup_nil⟩,λa ha b hb e=>c (by rw[List.mem_singleton.mp hb]at e;rw[<-e];exact ha)⟩
theorem yx.ok{k:Bool}{N:List Str}{d:D}(h:yx k N d):Ok N (rg N d)/\(rg N d).length=depth d:=by
 have ht:=h.tak;have hd:=h.dp;have hl:=nY (l9 (N++bf 60 d)) 702;refine⟨⟨List.nodup_append.mpr ⟨h.nd,(List.take_sublist _ _).nodup (HL _ _),λa ha b hb e=>?_⟩,λz c=>?_⟩,by rw[rg,iP];omega⟩;·subst e;exact(FF (List.mem_of_mem_take hb)).2 ((Ce _ _).mpr (List.mem_append.mpr (.inl ha)))
 ·rcases List.mem_append.mp c with c|c;·exact(h.nm z c).1
  ·exact(FF (List.mem_of_mem_take c)).1
theorem yx.gt{k:Bool}{N:List Str}{d:D}(h:yx k N d)(b:∀z,z∈bC 60 0 d->z<(N.length:Int)):GT (fF N d)/\(fF N d).length<=50000:=by obtain⟨ok,hl⟩:=h.ok;have hd:=h.dp;have c:=h.kn;refine⟨HN 60 N _ d ⟨k,h.g.wf⟩ (by omega) (by omega) (jM 60 0 N.length d b) ok (by omega) λz a=>u6 z (h.g.nm 60 z a),?_⟩;refine cB (vq 12 60 N _ d ⟨k,h.g.wf⟩ (by omega) (λz a=>(kd (ok.nm z a)).2.1) λz a=>(kd (u6 z (h.g.nm 60 z a))).2.1) ?_;have :=Nat.mul_le_mul_left (12+50) c;omega
theorem yx.go{k:Bool}{N:List Str}{d:D}(h:yx k N d)(b:∀z,z∈bC 60 0 d->z<(N.length:Int)){H:Hp}{v:V}{tl sc kp:Addr}{Q:VK}{E:XK}(r:Rep H d v)(g:H tl=some (.lst ((wS (fF N d).cps.toList).map V.str)))(f:H sc=some (.lst (N.map V.str)))(e:H kp=some (.lst ((dX [] (bf 60 d)).map V.str)))(q:∀H',aN H H'->Q (.int (((wS (fF N d).cps.toList).length:Nat):Int)) H'):zw 60 [v, .ref tl, .int 0, .ref sc, .ref kp] H Q E:=by
 obtain⟨ok,hl⟩:=h.ok;obtain⟨gt,i⟩:=h.gt b;obtain⟨_,_,_,_,a5,_⟩:=again gt;have hd:=h.dp;have l:=h.HW;have j:(dX [] (bf 60 d)).length<=6:=by refine cB (nX (Cb _ _ List.nodup_nil) (T:=six) λz a=>?_) (Nat.le_of_eq rfl);exact h.g.nm 60 z (((jW _ _ _).mp a).elim (λc=>absurd c zQ16) id)
 refine⟨d,v,tl,sc,kp,[],[],N,dX [] (bf 60 d),rg N d,rfl,r,⟨k,h.g.wf⟩,by omega,by omega,by omega,by rw[List.nil_append,gg];exact g,f,e,?_,by omega,jM 60 0 N.length d b,ok,⟨depth d,?_,?_⟩,by omega,by omega,λz a=>u6 z (h.g.nm 60 z a),λH' s'=>?_⟩;·show 0+(wS (fF N d).cps.toList).length+0<=100000;omega
 ·unfold rg;rw[IX (T':=N++dX [] (bf 60 d))];intro z;rw[Ce,List.mem_append,List.mem_append,jW];simp
 ·have :=nY (N++dX [] (bf 60 d)) 702;rw[cE]at this;omega
 ·have :=q H' s';rw[show((([]:List Str).length+(wS (ft 60 N (rg N d) d).cps.toList).length:Nat):Int)=(((wS (fF N d).cps.toList).length:Nat):Int)by simp[fF]];exact this
noncomputable def Wt:D:= .tup [.str "fun",Ey, .tup [.str "var", .int 0]]
noncomputable abbrev SQ:TE:=EO (d9 (tC (V.str "fun")) (d9 (EO (d9 (tC (V.str "nat")) sO)) (d9 (EO (d9 (tC (V.str "var")) (d9 (tC (V.int 0)) sO))) sO)))
theorem R3{σ:L2.St}{a:Hp}:Mk σ a SQ Wt:=zt (fP (zA (by decide+kernel)) (fP (zt (fP (zA (by decide+kernel)) u0)) (fP (zt (fP (zA (by decide+kernel)) (fP O2 u0))) u0)))
theorem Mh:yx false ["a"] Wt/\bC 60 0 Wt=[]:=by
 have g:DF false 0 Wt:=by
  have k:gB "fun"=false:=by decide+kernel
  have ed:sQ "fun"=[Str.ofString "kind","term"]:=by decide+kernel
  rw[<-k];refine yw (ps:=[Ey, .tup [.str "var", .int 0]]) (by decide+kernel) (by rw[ed];rfl) λi p a=>?_;rw[ed];match i,a with|0,a=>cases a;exact⟨_,rfl,by rw[show decide (Str.ofString "kind"=Str.ofString "kind")=true by decide+kernel];exact mW Gw (by decide+kernel) (by decide+kernel) (by decide+kernel)⟩|1,a=>cases a;exact⟨_,rfl,by rw[show decide (Str.ofString "term"=Str.ofString "kind")=false by decide+kernel];exact E9 (by decide) (by decide) (by omega)⟩|i+2,a=>simp at a
 refine⟨⟨g,by decide+kernel,by decide+kernel,by decide,λz b=>?_,by decide⟩,by decide+kernel⟩;rw[List.mem_singleton.mp b];exact⟨by decide+kernel,by decide+kernel⟩
theorem kept{d:D}{v:V}{e:Hp}{R:V->Hp->Prop}{a:Addr}(m:Wf d)(n:depth d<=40)(p:aP d<=600)(k:Rep e d v)(f:e a=none)(j:∀(a:Addr)(b:Hp),aN e b->b a=some (.lst ((dX [] (bf 60 d)).map V.str))->R (.ref a) b):CO 60 [v, .ref a] (upd e a (.lst [])) R E0:=by have g:=aq f (.lst []);refine⟨d,v,a,[],rfl,k.mono g,m,by omega,aj,by show 0+aP d<=100000;omega,λb l i=>j a b (λc o h=>l _ _ (aC h f) (g _ _ h)) i⟩
def Bm(K:PySem.W.Frag):Sp:=λvs H Q _=>∃(a:Addr)(ns:List Int),vs=[.ref a]/\aZ K H a (ns.map V.int)/\∀H',Q (.bl true) H'
theorem g9:aT ["_law_script","_law_want","_law_thing_here","_law_names_here","_law_handed","_law_line","_law_told"] ["_law_script"] (aw zP):=⟨rfl,rfl,rfl,by decide+kernel,rfl,by decide+kernel,by decide+kernel⟩
seal wI CO zw
theorem RE{f:Addr}{fd:FuncData}(F:Lu K "law" "law" zP f fd)(M:Mg mg t)(O:bB P w K mg bJ "_law_cell_at" (1) ["_law_script","_law_k"] (qC K))(g6:bB P w K mg bJ "_law_thing" (138) ["_law_script","_law_state","_law_want","_law_deep","_law_over"] (IG K 6))(eO:bB P w K mg bJ "_law_greatest" (191) ["_law_thing_here","_law_over"] (Iz 60))(eK:bB P w K mg bJ "_law_kept" (61) ["_law_thing_here","_law_found"] (CO 60))(wH:bB P w K mg bJ "_law_names" (131) ["_law_cell","_law_many","_law_kept_here"] Vo)(R:bB P w K mg (sG P w) "shown" (141) ["thing","names"] (wI t))(si:bB P w K mg bJ "_law_refused" (143) ["_law_thing_here","_law_names_here"] tP)(lh:bB P w K mg bJ "_law_words" (1) ["_law_line"] TV)(eS:bB P w K mg bJ "_law_gone" (63) Mi (zw 60)):sH P w K mg base bJ 193 f fd ["_law_script"] (Bm K):=by
 refine F.ok g9 (λvs H Q E h=>?_) (λdh A outer s H vs Q E hr h=>?_);·obtain⟨a,ns,rfl,_⟩:=h;rfl
 obtain⟨a,ns,rfl,hS,q⟩:=h;have h64:=hr.units;have hu:=ql hr;refine⟨_,(af (aE (i:=1) g9.nd rfl (cI rfl) (aH bH (bw (aa ak (aa ak ag))) (aG cQ (aG dI (aS O hr.m rfl aX (aa (pv 0) (aa ah ag))) ah) ah) (λ_ _=>rfl))) (af (aE (i:=2) g9.nd rfl (cI rfl) (aS g6 hr.m rfl aX (aa (pv 0) (aa (bw (aa ah (aa ah ag))) (aa (pv 1) (aa (aG cq ah (aG cQ (aG dI (aS O hr.m rfl aX (aa (pv 0) (aa ah ag))) ah) ah)) (aa ah ag))))))) (af (aE (i:=3) g9.nd rfl (cI rfl) (aS wH hr.m rfl aX (aa (aS O hr.m rfl aX (aa (pv 0) (aa ah ag))) (aa (aG cQ (aS O hr.m rfl aX (aa (pv 0) (aa ah ag))) ah) (aa (aS eK hr.m rfl aX (aa (pv 2) (aa (bw ag) ag))) ag))))) (af (aU (av xr (aS eO hr.m rfl aX (aa (pv 2) (aa ah ag))) (aL aV rfl M.dy cz (aa (pv 3) ag)) (ay _)) (ai (az (aS si hr.m rfl aX (aa (pv 2) (aa (pv 3) ag))))) aB) (af (aE (i:=4) g9.nd rfl (cI rfl) (cf dk rfl M.qM jQ (aa (pv 3) ag))) (af (aE (i:=5) g9.nd rfl (cI rfl) (aS R hr.m rfl B4 (aa (pv 2) (aa (pv 4) ag)))) (af (aU (L2.PW.pt (e_ (yS (iK (aL fw rfl M.bX bK (aa (pv 5) (aa (xl M.Bf uy rfl) ag))))) (eY (av (Iu hu) (pv 4) (pv 3) (ay _))))) (ai (az jN)) aB) (af (aE (i:=6) g9.nd rfl (cI rfl) (aS lh hr.m rfl aX (aa (pv 5) ag))) (af (aU (av lR (aS eS hr.m rfl aX (aa (pv 2) (aa (pv 6) (aa ah (aa (pv 3) (aa (aS eK hr.m rfl aX (aa (pv 2) (aa (bw ag) ag))) ag)))))) (aL aV rfl M.dy cz (aa (pv 6) ag)) (ay _)) (ai (az jN)) aB) (af (aU (av lR (O_ (x9 (x9 (ES (pv 6) ⟨rfl,rfl,rfl,rfl⟩) (by decide+kernel) ⟨rfl,rfl,rfl,rfl⟩) (by decide+kernel) ⟨rfl,rfl,rfl,rfl⟩)) (pv 5) (ay _)) (ai (az jN)) aB) (af (cA (aS R hr.m rfl B4 (aa (d3 (aa ak (aa (d3 (aa ak ag)) (aa (d3 (aa ak (aa ah ag))) ag)))) (aa (bw (aa ak ag)) ag)))) (af (cA (EM PySem.F.plainAttrs_list PySem.F.slot_list_reverse PySem.F.type_list_reverse qV (pv 4))) (af (aE (i:=6) g9.nd rfl (cI rfl) (aS lh hr.m rfl aX (aa (aS R hr.m rfl B4 (aa (pv 2) (aa (pv 4) ag))) ag))) (af (aU (av lR (aS eS hr.m rfl aX (aa (pv 2) (aa (pv 6) (aa ah (aa (cf dk rfl M.qM jQ (aa (pv 4) ag)) (aa (aS eK hr.m rfl aX (aa (pv 2) (aa (bw ag) ag))) ag)))))) (aL aV rfl M.dy cz (aa (pv 6) ag)) (ay _)) (ai (az jN)) aB) (af (cA (EM PySem.F.plainAttrs_list PySem.F.slot_list_reverse PySem.F.type_list_reverse qV (pv 4))) (ai (az (zz (gd bc (aS R hr.m rfl B4 (aa (pv 2) (aa (pv 4) ag))) (pv 5) (ay _)) (yT (gd (Jt hu) (pv 4) (pv 3) (ay _))))))))))))))))))))),?_⟩;try dsimp only[lB,d5]
 refine Sb ?_;intro _ _ _ _ _ _ _ _ _ _ _ _ _ _ _ _;rename_i D0 v16 v15 ZX v13 Yb v11 v10 v9 v8 v7 v6 v5 v4 v3 v2;have d0:=Int.emod_nonneg (da ns 0/7) (show(2:Int)≠0 by decide);have d1:=Int.emod_lt_of_pos (da ns 0/7) (show(0:Int)<2 by decide);refine⟨(gH rfl),λp3 uP=>?_⟩;have t3:=aq uP (.lst [V.str "t", .str "k"]);have h3:(upd H p3 (.lst [V.str "t", .str "k"])) p3=some (.lst [V.str "t", .str "k"]):=aj;generalize upd H p3 (.lst [V.str "t", .str "k"])=B at t3 h3⊢;have S3:=Er hS t3;clear t3 uP;obtain⟨want,Rn,IB⟩:∃want:Str,(want="k"\/want="t")/\gP [V.str "t",V.str "k"] (da ns 0/7%2)=some (.str want):=by
  rcases(show da ns 0/7%2=0\/da ns 0/7%2=1 by omega)with e|e;·exact⟨"t", .inr rfl,by rw[e];rfl⟩
  ·exact⟨"k", .inl rfl,by rw[e];rfl⟩
 refine⟨_,rfl,a,ns,0,rfl,S3,_,_,rfl,rfl,⟨by decide,by decide⟩,_,_,rfl,rfl,(by show(0:Int)<2;decide),p3,_,_, .str want,rfl,rfl,aZ.of h3,IB,?_⟩;clear IB d0 d1 h3;have e0:=Int.emod_nonneg (da ns 0/14) (show(5:Int)≠0 by decide);have e1:=Int.emod_lt_of_pos (da ns 0/14) (show(0:Int)<5 by decide);obtain⟨m,hm⟩:∃m:Nat,1+da ns 0/14%5=(m:Int):=⟨(1+da ns 0/14%5).toNat,by omega⟩;have hm5:1<=m/\m<=5:=by omega
 refine⟨_,rfl,(gH rfl),λp hp=>?_⟩;have t4:=aq hp (.lst [V.int 3, .int 200]);have h4:(upd B p (.lst [V.int 3, .int 200])) p=some (.lst [V.int ((3:Nat):Int), .int 200]):=aj;have D:∀H',bp p (upd B p (.lst [V.int 3, .int 200])) H'->aZ K H' a (ns.map V.int):=λH' s=>by
  rcases S3 with(h|⟨o,h⟩)|h;·exact .inl (.inl (s _ _ (aC h hp) (t4 _ _ h)))
  ·exact .inl (.inr ⟨o,s _ _ (aC h hp) (t4 _ _ h)⟩)
  ·exact .inr h
 have S4:=D _ (λb o _ h=>h);generalize upd B p (.lst [V.int 3, .int 200])=H4 at t4 h4 D S4⊢;refine⟨_,rfl,_,rfl,a,ns,0,rfl,S4,_,_,rfl,rfl,⟨by decide,by decide⟩,_,_,rfl,rfl,(by show(0:Int)<5;decide),_,_,rfl,rfl,a,p,ns,want,m,3,0,200,?_,by omega,D,h4,by omega,by omega,by omega,by omega,Rn,λv H5 o=>?_⟩;·show[V.ref a,V.ref p,V.str want,V.int (1+da ns 0/14%5),V.int 0]=_;rw[hm];rfl
 obtain⟨d,i',fj,lf,y1,y2,y3,y4,y5,y6,y7,y8,y9,y11,y12,r5⟩:=o.ex;have aag:fj<=60:=by rcases y8 with h|h<;>omega
 have S5:=D _ y1;clear D S4 h4 t4 hp S3;have QL:Wf d:=⟨_,y9.wf⟩;have X:depth d<=40:=by omega
 have VJ:aP d<=600:=by omega
 have f0:=Int.emod_nonneg (da ns 0) (show(7:Int)≠0 by decide);have f1:=Int.emod_lt_of_pos (da ns 0) (show(0:Int)<7 by decide);refine⟨_,rfl,a,ns,1,rfl,S5,_,rfl,a,ns,0,rfl,S5,_,_,rfl,rfl,(by show(0:Int)<7;decide),_,rfl,(gH rfl),λp8 Q6=>?_⟩;refine kept QL X VJ r5 Q6 λp8 H9 s9 h9=>?_;refine⟨da ns 1,da ns 0%7,p8,dX [] (bf 60 d),rfl,f0,by omega,h9,λk N N7 OB Qu _ nl nd nn=>?_⟩;have G:yx (decide (want="k")) N d:=⟨y9,X,VJ,nd,λz j=>⟨(nn z j).1,λc=>(nn z j).2 ((jW _ _ _).mpr (.inr c))⟩,nl⟩;have QW:=r5.mono (s9.trans OB);clear S5 r5 h9;refine⟨_,rfl,d,v,0,rfl,QW,QL,by omega,Int.le_refl _,λz j=>(y9.fr 60 z j).2,λg RV l hg1 hg2 hg3 hg4=>⟨_,rfl,k,_,rfl, .inl (aZ.of (l _ _ Qu)),_,_,rfl,rfl,_,rfl,bD (λc=>?_) (λc=>?_)⟩⟩;·have c:(((N.map V.str).length:Nat):Int)<=g:=of_decide_eq_true c;rw[br]at c;exact⟨_,rfl,_,rfl,d,_,v,k,N,rfl,QW.mono l,G,l _ _ Qu,⟨g,hg4 (by omega),c⟩,λH' _=>q H'⟩
 have c:¬(((N.map V.str).length:Nat):Int)<=g:=of_decide_eq_false (Bool.eq_false_iff.mpr c);rw[br]at c;have C:∀z,z∈bC 60 0 d->z<(N.length:Int):=λz j=>by have :=hg1 z j;omega
 have OM:∀z,z∈bC 60 0 d->z<(N.reverse.length:Int):=λz j=>by rw[List.length_reverse];exact C z j
 have r11:=QW.mono l;have zU:=l _ _ Qu;clear hg1 hg2 hg3 hg4 QW Qu l OB s9;obtain⟨gt,gl⟩:=G.gt C;obtain⟨a1,a2,a3,a4,a5,a6⟩:=again gt;have Gr:=G.rev;obtain⟨gtr,glr⟩:=Gr.gt OM;obtain⟨_,_,_,_,b5,b6⟩:=again gtr;refine⟨_,rfl,k,_,rfl, .inl (aZ.of zU),λhb Yv=>?_⟩;have Oe:=aq Yv (.lst (N.map V.str));have U:(upd RV hb (.lst (N.map V.str))) hb=some (.lst (N.map V.str)):=aj;generalize upd RV hb (.lst (N.map V.str))=QR at Oe U⊢;have Y1:=r11.mono Oe;have K0:=Oe _ _ zU;have nnb:k≠hb:=aC zU Yv;clear Oe r11 zU Yv;refine⟨_,rfl,_,rfl,?_⟩;refine G.sh Y1 U (λ_ H13 WG=>?_) (λ⟨z,j,hl⟩=>absurd (C z j) (by omega));have r13:=Y1.mono WG;have QN:=WG _ _ U;have EK:=WG _ _ K0;clear WG Y1 U K0;refine⟨_,rfl,_,_,_,_,rfl,iM.str _,rfl,_,rfl,cS ⟨_,rfl,_,rfl,hb,k,N,rfl,rfl,aZ.of QN,aZ.of EK,_,rfl,cS ?_⟩⟩;refine⟨_,rfl,fF N d,rfl,by omega,a6,λtl H14 _ WD W=>?_⟩;have V3:=r13.mono WD;have Sh:=WD _ _ QN;have G6:=WD _ _ EK;clear WD r13 QN EK;refine⟨_,rfl,_,rfl,_,rfl,_,rfl,(gH rfl),λp15 Ui=>?_⟩;refine kept QL X VJ V3 Ui λkp H15 I h15=>?_;refine G.go C (V3.mono I) (I _ _ W) (I _ _ G6) h15 λZ2 s16=>?_;have n:=I.trans s16;refine⟨_,rfl,tl,_,rfl, .inl (aZ.of (n _ _ W)),rfl,_,rfl,?_⟩;rw[br];refine bD (λc=>?_) (λ_=>?_);·exact absurd c (by show¬(!decide (_=_))=true;rw[decide_eq_true rfl];decide)
 refine⟨_,rfl,tl,wS (fF N d).cps.toList,rfl,aZ.of (n _ _ W),by show _+_*1<=16777216;omega,_,rfl,by show _+(_+1)*1<=16777216;omega,_,rfl,by show _+(_+1)*1<=16777216;omega,_,rfl,rfl,_,rfl,?_⟩;rw[a3];refine bD (λc=>?_) (λ_=>?_);·exact absurd c (by show¬(!decide (_=_))=true;rw[decide_eq_true rfl];decide)
 have r16:=V3.mono n;have Uz:=n _ _ Sh;have LD:=n _ _ G6;clear n I s16 h15 W V3 Sh G6 Ui;show SQ [some (.ref a),some (.str want),some v,some (.ref k),some (.ref hb),some (.str (fF N d)),some (.ref tl)] Z2 (λx H1=>d9 (TC (d9 (tC (V.str "a")) sO)) sO [some (.ref a),some (.str want),some v,some (.ref k),some (.ref hb),some (.str (fF N d)),some (.ref tl)] H1 λxs H2=>wI t (x::xs++[]) H2 (λy B=>Yb D0 [some (.ref a),some (.str want),some v,some (.ref k),some (.ref hb),some (.str (fF N d)),some (.ref tl)] B) E0);refine R3 Z2 (aN.refl _) _ λu Z6 s17 r17=>?_;refine⟨(gH rfl),λq1 D4=>?_⟩;have WW:=aq D4 (.lst [V.str "a"]);have YJ:(upd Z6 q1 (.lst [V.str "a"])) q1=some (.lst ((["a"]:List Str).map V.str)):=aj;generalize upd Z6 q1 (.lst [V.str "a"])=H18 at WW YJ⊢;show wI t [u, .ref q1] H18 _ E0;refine Mh.1.sh (r17.mono WW) YJ (λ_ S s19=>?_) (λ⟨z,j,_⟩=>by rw[Mh.2]at j;cases j);have Ck:=s17.trans (WW.trans s19);have r19:=r16.mono Ck;have Y:=Ck _ _ Uz;have Lj:=Ck _ _ LD;clear Ck s17 WW s19 YJ r17 r16 Uz LD D4;refine⟨_,rfl, .inl ⟨rfl,_,aZ.of Y⟩,hb,_,rfl,rfl,Y,?_⟩;have Xr:bp hb S (upd S hb (.lst (N.map V.str).reverse)):=bp.upd _;have Z:(upd S hb (.lst (N.map V.str).reverse)) hb=some (.lst (N.reverse.map V.str)):=by rw[aj,List.map_reverse]
 have VY:=Rep.fH Xr (λvs z=>by rw[Y]at z;cases z) r19;have Ee:=Xr _ _ nnb Lj;generalize upd S hb (.lst (N.map V.str).reverse)=H20 at Z VY Ee⊢;clear Xr Y r19 Lj;refine⟨_,rfl,_,rfl,?_⟩;refine Gr.sh VY Z (λ_ H21 s21=>?_) (λ⟨z,j,hl⟩=>absurd (OM z j) (by omega));refine⟨fF N.reverse d,rfl,by omega,b6,λtl2 H22 _ s22 Pq=>?_⟩;have Cp:=s21.trans s22;have Wl:=VY.mono Cp;have P6:=Cp _ _ Z;have MW:=Cp _ _ Ee;clear Cp s21 s22 VY Z Ee;refine⟨_,rfl,_,rfl,_,rfl,hb,_,rfl, .inl (aZ.of P6),λsc yn=>?_⟩;have r:=aq yn (.lst (N.reverse.map V.str));have XF:(upd H22 sc (.lst (N.reverse.map V.str))) sc=some (.lst (N.reverse.map V.str)):=aj;generalize upd H22 sc (.lst (N.reverse.map V.str))=H23 at r XF⊢;refine⟨_,rfl,(gH rfl),λp24 RQ=>?_⟩;refine kept QL X VJ (Wl.mono r) RQ λkp H24 L h24=>?_;refine Gr.go OM ((Wl.mono r).mono L) (L _ _ (r _ _ Pq)) (L _ _ XF) h24 λT Tw=>?_;have J:=r.trans (L.trans Tw);refine⟨_,rfl,tl2,_,rfl, .inl (aZ.of (J _ _ Pq)),rfl,_,rfl,?_⟩;rw[br];refine bD (λc=>?_) (λ_=>?_);·exact absurd c (by show¬(!decide (_=_))=true;rw[decide_eq_true rfl];decide)
 have r25:=Wl.mono J;have Pu:=J _ _ P6;have TN:=J _ _ MW;clear J L Tw r XF h24 Wl P6 MW RQ yn;refine⟨_,rfl, .inl ⟨rfl,_,aZ.of Pu⟩,hb,_,rfl,rfl,Pu,?_⟩;have x26:bp hb T (upd T hb (.lst (N.reverse.map V.str).reverse)):=bp.upd _;have PL:(upd T hb (.lst (N.reverse.map V.str).reverse)) hb=some (.lst (N.map V.str)):=by rw[aj,<-List.map_reverse,List.reverse_reverse]
 have r26:=Rep.fH x26 (λvs z=>by rw[Pu]at z;cases z) r25;have LS:=x26 _ _ nnb TN;generalize upd T hb (.lst (N.reverse.map V.str).reverse)=H26 at PL r26 LS⊢;refine⟨_,rfl,_,rfl,?_⟩;refine G.sh r26 PL (λ_ H27 s27=>?_) (λ⟨z,j,hl⟩=>absurd (C z j) (by omega));refine⟨_,rfl,rfl,_,rfl,?_⟩;rw[decide_eq_true rfl];exact b9 ⟨_,rfl,_,rfl,hb,k,N,rfl,rfl,aZ.of (s27 _ _ PL),aZ.of (s27 _ _ LS),q H27⟩
end K56
end
section
namespace K56
open PySem L2 L3 KM
theorem Nq{P:Program}{w:World}{K:PySem.W.Frag}{mg:Str->Option Value}{t:uw}(D:Df K mg "_law_cell_at" cV ["_law_script","_law_k"])(M:Mg mg t):bB P w K mg bJ "_law_cell_at" (1) ["_law_script","_law_k"] (qC K):=by obtain⟨f,fd,F,m,b⟩:=D;exact⟨f,fd,λbase=>IJ F M.dy,m,F.kp,b⟩
structure Txt(K:PySem.W.Frag)(mg:Str->Option Value)(t:uw):Prop where
 M:Mg mg t
 Dl:Df K mg "is_name" fY ["value"]
 Dm:Df K mg "kids_of" iw ["thing"]
 zb:Df K mg "binds_of" eP ["thing"]
 zu:Df K mg "depth_of" dz ["thing"]
 qW:Df K mg "numbers_free" cD ["thing","binders"]
 DJ:Df K mg "free_in" iq ["thing"]
 yQ:Df K mg "names_in" eZ ["thing"]
 uU:Df K mg "name_after" d_ ["name"]
 vJ:Df K mg "names_left" eC ["count","taken"]
 sN:Df K mg "number_told" dG ["thing"]
 Dd:Df K mg "text_of" fZ ["thing","around","left"]
 Kx:Df K mg "shown" pU ["thing","names"]
 sE:Df K mg "_law_cell_at" cV ["_law_script","_law_k"]
 ya:Df K mg "_law_shape" fE ["_law_word"]
 yG:Df K mg "_law_leaf" gq ["_law_cell","_law_want","_law_over","_law_state"]
 yv:Df K mg "_law_bound" fv ["_law_word"]
 wG:Df K mg "_law_thing" dU ["_law_script","_law_state","_law_want","_law_deep","_law_over"]
 w8:Df K mg "_law_names" cn ["_law_cell","_law_many","_law_kept_here"]
 rL:Df K mg "_law_greatest" cG ["_law_thing_here","_law_over"]
 yM:Df K mg "_law_kept" eW ["_law_thing_here","_law_found"]
 xA:Df K mg "_law_first" fC ["_law_taken"]
 yl:Df K mg "_law_words" fD ["_law_line"]
 so:Df K mg "_law_figures" dD ["_law_thing_here"]
 xk:Df K mg "_law_alone" fz ["_law_thing_here","_law_scope"]
 zd:Df K mg "_law_gone" eM Mi
 sF:Df K mg "_law_refused" dF ["_law_thing_here","_law_names_here"]
 Ro:Df K mg "law" zP ["_law_script"]
 zx:∃as,KD K t.jy [("nat",[]),("none",[]),("all",[.str "kind", .str "kind"]),("some",[.str "kind", .str "kind"]),("same",[.str "kind", .str "term", .str "term"]),("var",[]),("fun",[.str "kind", .str "term"]),("app",[.str "term", .str "term"]),("zero",[]),("next",[.str "term"]),("rec",[.str "kind", .str "term", .str "term", .str "term"]),("like",[.str "kind", .str "term"]),("carry",[.str "kind", .str "term", .str "term"]),("never",[.str "kind", .str "term"]),("pair",[.str "kind", .str "term", .str "term"]),("first",[.str "term"]),("second",[.str "term"]),("name",[])] as
 iI:iB K t.dR [("all", .int 1),("some", .int 1),("fun", .int 1),("rec", .int 0),("carry", .int 0)]
 X:Ek K t
theorem txt_mk{K:PySem.W.Frag}{h:Heap}{mg:Str->Option Value}(X:K.In h)(G:h.Ns mainGlobals mg){mr:Tok}{zF:Tok}{c:Addr}{e:Array DictEntry}{xQ:Nat}{u D E F H I J L M N v w x y z A B C:Addr}{uq:Option Addr}{Y:Array Value}{vc:Nat}{ve:Array (Option Value)}{uX:Option Addr}{W:Array Value}{uK:Nat}{uj:Array (Option Value)}{vh:Option Addr}{V:Array Value}{uZ:Nat}{wc:Array (Option Value)}{uo:Option Addr}{U:Array Value}{vp:Nat}{ud:Array (Option Value)}{wj:Option Addr}{T:Array Value}{vk:Nat}{u5:Array (Option Value)}{uW:Option Addr}{S:Array Value}{vT:Nat}{vm:Array (Option Value)}{vg:Option Addr}{R:Array Value}{vX:Nat}{vw:Array (Option Value)}{we:Option Addr}{Q:Array Value}{vL:Nat}{vd:Array (Option Value)}{wU:Option Addr}{l5:Array Value}{yq:Nat}{xN:Array (Option Value)}{xW:Option Addr}{kK:Array Value}{yi:Nat}{xE:Array (Option Value)}{wW:Option Addr}{kH:Array Value}{wX:Nat}{yo:Array (Option Value)}{wy:Option Addr}{kI:Array Value}{yj:Nat}{wD:Array (Option Value)}{wu:Option Addr}{k_:Array Value}{w_:Nat}{w6:Array (Option Value)}{x8:Option Addr}{k6:Array Value}{xJ:Nat}{yt:Array (Option Value)}{xb:Option Addr}{kT:Array Value}{xD:Nat}{xO:Array (Option Value)}{xX:Option Addr}{lu:Array Value}{xV:Nat}{xU:Array (Option Value)}{xK:Option Addr}{Z:Array Value}{wQ:Nat}{xp:Array (Option Value)}{wM:Option Addr}{P:Array Value}{xC:Nat}{wO:Array (Option Value)}{b:Addr}{O:Array DictEntry}{rO:Nat}{d:Addr}{g:Addr}{j:Addr}{k:Addr}{f:Addr}{a:Addr}{i:Addr}{n:Addr}{q:Addr}{p:Addr}{s:Addr}{l:Addr}{m:Addr}{r:Addr}{o:Addr}(a0:dj K "is_name" fY)(a1:dj K "kids_of" iw)(a2:dj K "binds_of" eP)(a3:dj K "depth_of" dz)(a4:dj K "numbers_free" cD)(a5:dj K "free_in" iq)(a6:dj K "names_in" eZ)(a7:dj K "name_after" d_)(a8:dj K "names_left" eC)(a9:dj K "number_told" dG)(a10:dj K "text_of" fZ)(a11:dj K "shown" pU)(a12:dj K "_law_cell_at" cV)(a13:dj K "_law_shape" fE)(a14:dj K "_law_leaf" gq)(a15:dj K "_law_bound" fv)(a16:dj K "_law_thing" dU)(a17:dj K "_law_names" cn)(a18:dj K "_law_greatest" cG)(a19:dj K "_law_kept" eW)(a20:dj K "_law_first" fC)(a21:dj K "_law_words" fD)(a22:dj K "_law_figures" dD)(a23:dj K "_law_alone" fz)(a24:dj K "_law_gone" eM)(a25:dj K "_law_refused" dF)(a26:dj K "law" zP)(z_ValueError:PySem.W.nsIn K mainGlobals "ValueError"=some none)(z_all:PySem.W.nsIn K mainGlobals "all"=some none)(z_int:PySem.W.nsIn K mainGlobals "int"=some none)(z_isinstance:PySem.W.nsIn K mainGlobals "isinstance"=some none)(z_len:PySem.W.nsIn K mainGlobals "len"=some none)(z_list:PySem.W.nsIn K mainGlobals "list"=some none)(z_max:PySem.W.nsIn K mainGlobals "max"=some none)(z_min:PySem.W.nsIn K mainGlobals "min"=some none)(z_range:PySem.W.nsIn K mainGlobals "range"=some none)(z_set:PySem.W.nsIn K mainGlobals "set"=some none)(z_sorted:PySem.W.nsIn K mainGlobals "sorted"=some none)(z_str:PySem.W.nsIn K mainGlobals "str"=some none)(z_tuple:PySem.W.nsIn K mainGlobals "tuple"=some none)(z_zip:PySem.W.nsIn K mainGlobals "zip"=some none)(g_MOST_LETTERS:PySem.W.nsIn K mainGlobals "MOST_LETTERS"=some (some (.int 12 mr)))(g_LETTERS:PySem.W.nsIn K mainGlobals "LETTERS"=some (some (.str "abcdefghijklmnopqrstuvwxyz" zF)))(g_KIDS_DUE:PySem.W.nsIn K mainGlobals "KIDS_DUE"=some (some (.ref c)))(lk_KIDS_DUE:K.lookup c=some ⟨.type "dict",none, .dict e xQ,#[]⟩)(sy_KIDS_DUE:(c==sysModules)=false)(ks_KIDS_DUE:gy e.toList ["nat","none","all","some","same","var","fun","app","zero","next","rec","like","carry","never","pair","first","second","name"]=true)(rf_KIDS_DUE:refsOf e.toList=[u,D,E,F,H,I,J,L,M,N,v,w,x,y,z,A,B,C])(u0_KIDS_DUE:K.lookup u=some ⟨.type "tuple",wM, .seq P xC,wO⟩)(v0_KIDS_DUE:b_ [] P=true)(u1_KIDS_DUE:K.lookup D=some ⟨.type "tuple",xK, .seq Z wQ,xp⟩)(v1_KIDS_DUE:b_ [] Z=true)(u2_KIDS_DUE:K.lookup E=some ⟨.type "tuple",xX, .seq lu xV,xU⟩)(v2_KIDS_DUE:b_ [.str "kind", .str "kind"] lu=true)(u3_KIDS_DUE:K.lookup F=some ⟨.type "tuple",xb, .seq kT xD,xO⟩)(v3_KIDS_DUE:b_ [.str "kind", .str "kind"] kT=true)(u4_KIDS_DUE:K.lookup H=some ⟨.type "tuple",x8, .seq k6 xJ,yt⟩)(v4_KIDS_DUE:b_ [.str "kind", .str "term", .str "term"] k6=true)(u5_KIDS_DUE:K.lookup I=some ⟨.type "tuple",wu, .seq k_ w_,w6⟩)(v5_KIDS_DUE:b_ [] k_=true)(u6_KIDS_DUE:K.lookup J=some ⟨.type "tuple",wy, .seq kI yj,wD⟩)(v6_KIDS_DUE:b_ [.str "kind", .str "term"] kI=true)(u7_KIDS_DUE:K.lookup L=some ⟨.type "tuple",wW, .seq kH wX,yo⟩)(v7_KIDS_DUE:b_ [.str "term", .str "term"] kH=true)(u8_KIDS_DUE:K.lookup M=some ⟨.type "tuple",xW, .seq kK yi,xE⟩)(v8_KIDS_DUE:b_ [] kK=true)(u9_KIDS_DUE:K.lookup N=some ⟨.type "tuple",wU, .seq l5 yq,xN⟩)(v9_KIDS_DUE:b_ [.str "term"] l5=true)(u10_KIDS_DUE:K.lookup v=some ⟨.type "tuple",we, .seq Q vL,vd⟩)(v10_KIDS_DUE:b_ [.str "kind", .str "term", .str "term", .str "term"] Q=true)(u11_KIDS_DUE:K.lookup w=some ⟨.type "tuple",vg, .seq R vX,vw⟩)(v11_KIDS_DUE:b_ [.str "kind", .str "term"] R=true)(u12_KIDS_DUE:K.lookup x=some ⟨.type "tuple",uW, .seq S vT,vm⟩)(v12_KIDS_DUE:b_ [.str "kind", .str "term", .str "term"] S=true)(u13_KIDS_DUE:K.lookup y=some ⟨.type "tuple",wj, .seq T vk,u5⟩)(v13_KIDS_DUE:b_ [.str "kind", .str "term"] T=true)(u14_KIDS_DUE:K.lookup z=some ⟨.type "tuple",uo, .seq U vp,ud⟩)(v14_KIDS_DUE:b_ [.str "kind", .str "term", .str "term"] U=true)(u15_KIDS_DUE:K.lookup A=some ⟨.type "tuple",vh, .seq V uZ,wc⟩)(v15_KIDS_DUE:b_ [.str "term"] V=true)(u16_KIDS_DUE:K.lookup B=some ⟨.type "tuple",uX, .seq W uK,uj⟩)(v16_KIDS_DUE:b_ [.str "term"] W=true)(u17_KIDS_DUE:K.lookup C=some ⟨.type "tuple",uq, .seq Y vc,ve⟩)(v17_KIDS_DUE:b_ [] Y=true)(g_BINDER_OVER:PySem.W.nsIn K mainGlobals "BINDER_OVER"=some (some (.ref b)))(lk_BINDER_OVER:K.lookup b=some ⟨.type "dict",none, .dict O rO,#[]⟩)(sy_BINDER_OVER:(b==sysModules)=false)(vs_BINDER_OVER:gc O.toList [("all",1),("some",1),("fun",1),("rec",0),("carry",0)]=true)(g_KeeperError:PySem.W.nsIn K mainGlobals "KeeperError"=some (some (.ref d)))(g_Great:PySem.W.nsIn K mainGlobals "Great"=some (some (.ref g)))(g_NoPlace:PySem.W.nsIn K mainGlobals "NoPlace"=some (some (.ref j)))(g_NoStep:PySem.W.nsIn K mainGlobals "NoStep"=some (some (.ref k)))(g_Dry:PySem.W.nsIn K mainGlobals "Dry"=some (some (.ref f)))(g_NoVariable:PySem.W.nsIn K mainGlobals "NoVariable"=some (some (.ref a)))(g_NoName:PySem.W.nsIn K mainGlobals "NoName"=some (some (.ref i)))(g_NotAll:PySem.W.nsIn K mainGlobals "NotAll"=some (some (.ref n)))(g_NotSome:PySem.W.nsIn K mainGlobals "NotSome"=some (some (.ref q)))(g_NotSame:PySem.W.nsIn K mainGlobals "NotSame"=some (some (.ref p)))(g_Unlike:PySem.W.nsIn K mainGlobals "Unlike"=some (some (.ref s)))(g_NoText:PySem.W.nsIn K mainGlobals "NoText"=some (some (.ref l)))(g_NoWord:PySem.W.nsIn K mainGlobals "NoWord"=some (some (.ref m)))(g_TwiceTold:PySem.W.nsIn K mainGlobals "TwiceTold"=some (some (.ref r)))(g_NotClosed:PySem.W.nsIn K mainGlobals "NotClosed"=some (some (.ref o)))(x_nv:PySem.W.excIn K a [.type "ValueError", .type "Exception", .type "BaseException", .type "object"] "ValueError.__new__"=true)(x_ke:PySem.W.excIn K d [.type "ValueError", .type "Exception", .type "BaseException", .type "object"] "ValueError.__new__"=true)(x_c1:PySem.W.findIn K (.ref a) "__getattribute__"=some (some (.builtin "BaseException.__getattribute__")))(x_c2:PySem.W.findIn K (.ref a) "__class__"=some (some (.builtin "object.__class__")))(x_c3:PySem.W.findIn K (.ref a) "__getattr__"=some none)(x_c4:PySem.W.mroIn K a (.type "object")=some true)(x_c5:PySem.W.mroIn K a (.type "BaseException")=some true)(x_c6:(PySem.W.clsIn K a).isSome=true)(x_s2:PySem.W.subIn K (.ref a) (.ref d)=some true)(x_k1:PySem.W.kitOne K (.ref a) (.type "ValueError")=some true)(x_k2:PySem.W.kitOne K (.ref a) (.ref a)=some true)(x_a1:PySem.W.kitAny K (.ref a) [.ref f, .ref g, .ref i, .ref j, .ref k, .ref l, .ref m, .ref s]=some false)(x_a2:PySem.W.kitAny K (.ref a) [.ref n, .ref o, .ref p, .ref q, .ref r]=some false):∃t,Txt K mg t:=⟨⟨(),c,b,d,g,j,k,f,a,i,n,q,p,s,l,m,r,o⟩,⟨⟨PySem.W.mg_none_of X G z_ValueError,PySem.W.mg_none_of X G z_all,PySem.W.mg_none_of X G z_int,PySem.W.mg_none_of X G z_isinstance,PySem.W.mg_none_of X G z_len,PySem.W.mg_none_of X G z_list,PySem.W.mg_none_of X G z_max,PySem.W.mg_none_of X G z_min,PySem.W.mg_none_of X G z_range,PySem.W.mg_none_of X G z_set,PySem.W.mg_none_of X G z_sorted,PySem.W.mg_none_of X G z_str,PySem.W.mg_none_of X G z_tuple,PySem.W.mg_none_of X G z_zip,⟨_,PySem.W.mg_of X G g_MOST_LETTERS⟩,⟨_,PySem.W.mg_of X G g_LETTERS⟩,PySem.W.mg_of X G g_KIDS_DUE,PySem.W.mg_of X G g_BINDER_OVER,PySem.W.mg_of X G g_KeeperError,PySem.W.mg_of X G g_Great,PySem.W.mg_of X G g_NoPlace,PySem.W.mg_of X G g_NoStep,PySem.W.mg_of X G g_Dry,PySem.W.mg_of X G g_NoVariable,PySem.W.mg_of X G g_NoName,PySem.W.mg_of X G g_NotAll,PySem.W.mg_of X G g_NotSome,PySem.W.mg_of X G g_NotSame,PySem.W.mg_of X G g_Unlike,PySem.W.mg_of X G g_NoText,PySem.W.mg_of X G g_NoWord,PySem.W.mg_of X G g_TwiceTold,PySem.W.mg_of X G g_NotClosed⟩,a0.df X G λ_ _ _ _ _ _=>gb (λ_=>rfl),a1.df X G λ_ _ _ _ _ _=>gb (λ_=>rfl),a2.df X G λ_ _ _ _ _ _=>gb (λ_=>rfl),a3.df X G λ_ _ _ _ _ _=>gb (λ_=>rfl),a4.df X G λ_ _ _ _ _ _=>DY (λ_ _=>rfl),a5.df X G λ_ _ _ _ _ _=>gb (λ_=>rfl),a6.df X G λ_ _ _ _ _ _=>gb (λ_=>rfl),a7.df X G λ_ _ _ _ _ _=>gb (λ_=>rfl),a8.df X G λ_ _ _ _ _ _=>DY (λ_ _=>rfl),a9.df X G λ_ _ _ _ _ _=>gb (λ_=>rfl),a10.df X G λ_ _ _ _ _ _=>ZN (λ_ _ _=>rfl),a11.df X G λ_ _ _ _ _ _=>DY (λ_ _=>rfl),a12.df X G λ_ _ _ _ _ _=>DY (λ_ _=>rfl),a13.df X G λ_ _ _ _ _ _=>gb (λ_=>rfl),a14.df X G λ_ _ _ _ _ _=>by4 (λ_ _ _ _=>rfl),a15.df X G λ_ _ _ _ _ _=>gb (λ_=>rfl),a16.df X G λ_ _ _ _ _ _=>by5 (λ_ _ _ _ _=>rfl),a17.df X G λ_ _ _ _ _ _=>ZN (λ_ _ _=>rfl),a18.df X G λ_ _ _ _ _ _=>DY (λ_ _=>rfl),a19.df X G λ_ _ _ _ _ _=>DY (λ_ _=>rfl),a20.df X G λ_ _ _ _ _ _=>gb (λ_=>rfl),a21.df X G λ_ _ _ _ _ _=>gb (λ_=>rfl),a22.df X G λ_ _ _ _ _ _=>gb (λ_=>rfl),a23.df X G λ_ _ _ _ _ _=>DY (λ_ _=>rfl),a24.df X G λ_ _ _ _ _ _=>by5 (λ_ _ _ _ _=>rfl),a25.df X G λ_ _ _ _ _ _=>DY (λ_ _=>rfl),a26.df X G λ_ _ _ _ _ _=>gb (λ_=>rfl),⟨_,Ts sy_KIDS_DUE lk_KIDS_DUE ks_KIDS_DUE rf_KIDS_DUE rfl (bO (cx u0_KIDS_DUE v0_KIDS_DUE) (bO (cx u1_KIDS_DUE v1_KIDS_DUE) (bO (cx u2_KIDS_DUE v2_KIDS_DUE) (bO (cx u3_KIDS_DUE v3_KIDS_DUE) (bO (cx u4_KIDS_DUE v4_KIDS_DUE) (bO (cx u5_KIDS_DUE v5_KIDS_DUE) (bO (cx u6_KIDS_DUE v6_KIDS_DUE) (bO (cx u7_KIDS_DUE v7_KIDS_DUE) (bO (cx u8_KIDS_DUE v8_KIDS_DUE) (bO (cx u9_KIDS_DUE v9_KIDS_DUE) (bO (cx u10_KIDS_DUE v10_KIDS_DUE) (bO (cx u11_KIDS_DUE v11_KIDS_DUE) (bO (cx u12_KIDS_DUE v12_KIDS_DUE) (bO (cx u13_KIDS_DUE v13_KIDS_DUE) (bO (cx u14_KIDS_DUE v14_KIDS_DUE) (bO (cx u15_KIDS_DUE v15_KIDS_DUE) (bO (cx u16_KIDS_DUE v16_KIDS_DUE) (bO (cx u17_KIDS_DUE v17_KIDS_DUE) Nn))))))))))))))))))⟩,JG sy_BINDER_OVER lk_BINDER_OVER vs_BINDER_OVER,⟨⟨_,_,_,PySem.F.excBase_ValueError,x_nv⟩,⟨_,_,_,PySem.F.excBase_ValueError,x_ke⟩,⟨x_c1,x_c2,x_c3,x_c4,x_c5,x_c6⟩,x_s2,x_k1,x_k2,x_a1,x_a2⟩⟩⟩
theorem fin{l:PySem.W.OpenLaw}{w:World}{K:PySem.W.Frag}{mg:Str->Option Value}{t:uw}{fa:Addr}(T:Txt K mg t)(u:mg "law"=some (.ref fa)):∃fd:FuncData,(∀(s:Shared)(v:Value),BindsTo s fd ⟨[v],[]⟩ [("_law_script",v)])/\∀base:Heap,K.In base->base.Ns mainGlobals mg->sH l.prog w K mg base bJ 193 fa fd ["_law_script"] (Bm K):=by
 obtain⟨f,fd,F,m,b⟩:=T.Ro;have e:=u.symm.trans m;cases e;refine⟨fd,?_,λbase _ _=>?_⟩;·obtain⟨oc,od,kV,doc,pm,an,dh,ct,Gi,rfl,L,J⟩:=F.ex;exactλs v=> .of_eq rfl
 obtain⟨as,d⟩:=T.zx;have g:=Nq (P:=l.prog) (w:=w) T.sE T.M;have p:=yu (P:=l.prog) (w:=w) T.ya T.M;have c:=xo (P:=l.prog) (w:=w) T.yv T.M;have q:=yC (P:=l.prog) (w:=w) T.yG T.M;have r:=kL T.wG T.M g q c p 6;have j:=gX T.rL T.M c 60;have k:=rG (P:=l.prog) (w:=w) T.yM T.M 60;have o:=yr (P:=l.prog) (w:=w) T.w8 T.M;have a:=C3 (P:=l.prog) (w:=w) T.Dm T.M;have I:=DC (P:=l.prog) (w:=w) T.Dl T.M d;have i:=yE (P:=l.prog) (w:=w) T.zb T.M d T.iI;have z:=gZ T.qW T.M a i 60;have A:=DA T.DJ T.M z;have B:=qe T.yQ T.M a 60;have C:=rR T.zu T.M a 60;have D:=uQ (P:=l.prog) (w:=w) T.uU T.M;have E:=vH T.vJ T.M I D;have x:=λn=>sP (P:=l.prog) (w:=w) (K:=K) (n:=n) T.sN T.M;have y:=tq T.Dd T.M a i T.iI x 60;have h:=IM T.Kx T.M T.X.nv A B C E y;have q1:=sT T.sF T.M T.X h;have q2:=xf (P:=l.prog) (w:=w) T.yl T.M;have q3:=xY (P:=l.prog) (w:=w) T.xA T.M;have q4:=λn=>sV (P:=l.prog) (w:=w) (K:=K) (n:=n) T.so T.M;have G:=λn=>xZ T.xk T.M (q4 n);have H:=qk T.zd T.M G c q3 60;exact RE F T.M g r j k o h q1 q2 H
theorem walk{l:PySem.W.OpenLaw}{q:Program}{loose:List Str}{XP:(Str->Option Value)->Heap->Prop}{YP:World->Heap->Prop}{d:DefRec}{K:Params->PySem.W.Frag}(hn:l.most=some 63)(c:d.params.defaults=[])(b:∀(w:World)(h:Heap),YP w h->(K w.params).In h)(F:∀(w:World)(mg:Str->Option Value)(fa:Addr)(h:Heap),(K w.params).In h->h.Ns mainGlobals mg->mg d.name=some (.ref fa)->∃fd:FuncData,(∀(s:Shared)(u:Value),BindsTo s fd ⟨[u],[]⟩ [("_law_script",u)])/\∀base:Heap,(K w.params).In base->base.Ns mainGlobals mg->sH l.prog w (K w.params) mg base bJ 193 fa fd ["_law_script"] (Bm (K w.params))):PySem.W.WalkO q loose XP YP l.row.toRowW d [] (λf vs=>PySem.call f vs):=L2.Kh (n:=63) (k:=193) (x:="_law_script") (CX:=λ_=>bJ) (sp:=λw=>Bm (K w.params)) hn (by decide) c ⟨by decide,by decide,λ_=>rfl⟩ b F (λ_ _ a ns hl _ hS=>⟨a,ns,rfl,hS,λ_=>rfl⟩) λ_ _ _ _ _ z=>z
end K56
end
section
namespace HD
open PySem PySem.W PySem.Calls PyProof.Rows
noncomputable def vb{a:Type}:List a->List a×List a|[]=>([],[])|x::r=>(x::(vb r).2,(vb r).1)
noncomputable def Np:Nat->List Obj->BT|0,_=> .nil|_+1,[]=> .nil|n+1,x::r=> .node x (Np n (vb r).1) (Np n (vb r).2)
noncomputable def mkT(l:List Obj):BT:=Np 14 l
noncomputable def i(n:Nat):Value:= .int (.ofNat n) 0
noncomputable def view(p:Program)(l:List Stmt):Program:={p with main:={p.main with body:=l}}
noncomputable abbrev gE(a:Type):Type:=World->(OsState->a)×(OsState->a)
def Ok{a:Type}(q:gE a):Prop:=∀w,(q w).1=(q w).2
theorem gb{b:Type}{q a:gE b}(e:q=a)(h:∀w,(a w).1=(a w).2):Ok q:=by subst e;exact h
theorem DY{f:Type}{q a b:gE f}(r:String)(c:(λw=>q (w.withFollow r false))=a)(d:(λw=>q (w.withFollow r true))=b)(e:∀w,(a w).1=(a w).2)(ht:∀w,(b w).1=(b w).2):Ok q:=by subst c d;exactλw=>byRow2 r (P:=λw=>(q w).1=(q w).2) e ht w
section
variable(p:Program)(m:Nat)(ann:Option Value)
noncomputable def pre(n:Nat)(S a:World->OsState->Shared)(t t':Thread):gE (Option (Shared×Thread)):=λw=>(λos=>topGo treeTable p w m ann n (S w os) t,λos=>some (a w os,t'))
noncomputable def Xe(n:Nat)(S:World->OsState->Shared)(a:World->OsState->SharedT)(b:List Stmt)(env:Env)(c:Code)(d e:Pos)(B:List Frame):gE (Option (Flow×Shared×Code×Pos)):=λw=>(λos=>segRun treeTable p w m ann 1 n (S w os) (blockOf b env c d B),λos=>some (Flow.next,(a w os).abs,c,e))
noncomputable def seg(n:Nat)(S a:World->OsState->SharedT)(l:List Stmt)(env:Env)(c:Code)(b d:Pos)(B:List Frame):gE (Option (Flow×SharedT×Code×Pos)):=λw=>(λos=>segRunT treeTable p w m ann 1 n (S w os) (piecesOf l env c b B),λos=>some (Flow.next,a w os,c,d))
noncomputable def fin(n:Nat)(S:World->OsState->SharedT)(a:World->OsState->Shared)(t:Thread):gE (Option Shared):=λw=>(λos=>topRun treeTable p w m ann n (S w os).abs t,λos=>some (a w os))
variable{p:Program}{m:Nat}{ann:Option Value}
def Goes(p:Program)(m:Nat)(ann:Option Value)(R:World->OsState->Shared)(n:Nat)(S:World->OsState->Shared)(t:Thread):Prop:=∀w os,topRun treeTable p w m ann n (S w os) t=some (R w os)
noncomputable def Ir(S:World->OsState->SharedT):World->OsState->Shared:=λw os=>(S w os).abs
theorem Sk{n:Nat}{S:World->OsState->SharedT}{R:World->OsState->Shared}{env:Env}{c:Code}{a q:Pos}(h:Ok (fin p m ann n S R ⟨doneF .next,c,a,[topFrame q]⟩)):Goes p m ann R n (Ir S) (restOf [] env c a [topFrame q]):=λw os=>piece_nil (congrFun (h w) os)
theorem dn{n N:Nat}{S a:World->OsState->SharedT}{R:World->OsState->Shared}{l rest:List Stmt}{env:Env}{c:Code}{b d q:Pos}(h:Ok (seg p m ann n S a l env c b d [topFrame q]))(k:Goes p m ann R N (Ir a) (restOf rest env c d [topFrame q])):Goes p m ann R (n+N) (Ir S) (restOf (l++rest) env c b [topFrame q]):=λw os=>piece_app (segRun_of (congrFun (h w) os)) (k w os)
theorem Ug{n N:Nat}{S:World->OsState->Shared}{a:World->OsState->SharedT}{R:World->OsState->Shared}{b c:List Stmt}{env:Env}{d f q:Pos}(e:b=c)(h:Ok (Xe p m ann n S a b env (.body b env) d f [topFrame q]))(k:Goes p m ann R N (Ir a) (restOf c env (.body b env) f [topFrame q])):Goes p m ann R (n+N) S ⟨denote treeTable (.body b env), .body b env,d,[topFrame q]⟩:=λw os=>by subst e;exact piece_block (congrFun (h w) os) (k w os)
theorem UJ{n N:Nat}{S a R:World->OsState->Shared}{t t':Thread}(h:Ok (pre p m ann n S a t t'))(k:Goes p m ann R N a t'):Goes p m ann R (n+N) S t:=λw os=>go_top (congrFun (h w) os) (k w os)
end
noncomputable def sz(m:Nat)(a:Option Value):gE (Bool×Nat×Option Value):=λw=>(λ_=>((boot_heap w.params).isNs mainGlobals&&(Array.mk []:Array GenState).size==0,(boot_heap w.params).objs.size,(boot_heap w.params).nsMap mainGlobals "__annotations__"),λ_=>(true,m,a))
noncomputable def Tv(H:Params->Heap)(d:Drawn)(k:Nat):World->OsState->Shared:=λw os=>⟨H w.params,Array.mk [],d,k,os⟩
noncomputable def la(p:Program)(H₁:Params->Heap)(d:Drawn)(k:Nat):gE Bool:=λw=>(λos=>(staticsOk (importedModules p.main.body) (boot_heap w.params) (H₁ w.params)&&namesBound p (H₁ w.params)&&gensDone ⟨H₁ w.params,Array.mk [],d,k,os⟩&&laidKept (boot_heap w.params) (H₁ w.params)),λ_=>true)
noncomputable def lb(p q:Program)(loose:List Str)(Xt:Shared->Bool)(H₁:Params->Heap)(d:Drawn)(k:Nat):=λ(w:World)=>((λ(os:OsState)=>openSeen q loose (importedModules p.main.body) Xt true ⟨H₁ w.params,Array.mk [],d,k,os⟩),(λ(_:OsState)=>openGood q loose))
noncomputable def lc(H:Hook)(H₁:Params->Heap)(d:Drawn)(k:Nat):gE H.α:=λw=>(λos=>H.obs ⟨H₁ w.params,Array.mk [],d,k,os⟩,λ_=>H.val w)
theorem left{p q:Program}{loose:List Str}{Xt:Shared->Bool}{H:Hook}{N m M:Nat}{a:Option Value}{H₁:Params->Heap}{d:Drawn}{k:Nat}(e:opening p=plainProg p.main.scope.names)(b:Nat.ble 600 N=true)(f:∀s,fenceModules? p s=some s)(size:Ok (sz m a))(run:Goes p m a (Tv H₁ d k) M (Tv boot_heap boot_drawn boot_toks) (topStub p))(le:Nat.ble M N=true)(ha:Ok (la p H₁ d k))(hb:Ok (lb p q loose Xt H₁ d k))(hc:Ok (lc H H₁ d k)):LeftO p q loose Xt H.obs H.val N:=LeftO.of_pieces (H₀:=boot_heap) (H₁:=H₁) (boot_open e b f) (λw=>congrFun (size w) default) run le λw=>funext λos=>looks_pair (congrFun (ha w) os) (looks_pair (congrFun (hb w) os) (congrFun (hc w) os))
noncomputable def tp(l:List Value):Obj:=⟨.type "tuple",none, .seq l.toArray 0,#[]⟩
noncomputable def fl(l:List Value):Obj:=⟨.none,none, .fields l.toArray,#[]⟩
noncomputable def e(P:Params)(x:Str)(n:Nat)(v:Value):DictEntry:=⟨PyData.keyHash P x, .str x n,v⟩
noncomputable def dc(l:List DictEntry)(n:Nat):Obj:=⟨.type "dict",none, .dict l.toArray n,#[]⟩
noncomputable def dm(o:Obj)(l:List DictEntry)(n:Nat):Obj:=match o.data with| .dict a _=>dc (a.toList++l) n|_=>o
noncomputable def fa(o:Obj)(l:List Value):Obj:=match o.data with| .fields a=>fl (a.toList++l)|_=>o
noncomputable abbrev F4:Type:=Option (Flow×SharedT×Code×Pos)
noncomputable def cd(n q f:Str)(a b c:Nat)(k1 k2 e g h r:Nat)(t:Bool)(m s:Nat)(j k l o:Value)(y z d:Nat):Obj:=⟨.type "code",none, .fields #[.str n a, .str q b, .str f c,i k1,i k2,i e,i g,i h, .ref r, .bool t,i m, .ref s,j,k,l,o,i y,i z, .str f d],#[]⟩
noncomputable def fs(n q:Str)(s:Stmt):Obj:=⟨.none,none, .func ⟨n,q,L2.eD s, .stmts (L2.cY s),L2.aw s,0,[], .none, .none, .none, .none,none, .none, .none,0⟩,#[]⟩
noncomputable def fu(n q:Str)(s:Stmt)(m:Str)(k c:Nat):Obj:=⟨.type "function",none, .func ⟨n,q,L2.eD s, .stmts (L2.cY s),L2.aw s,3,[], .none, .none, .none, .str m k,none, .ref c, .none,0⟩,#[]⟩
noncomputable def fm(a b c:Nat)(m:Str)(k:Nat):Obj:=⟨.type "frame",none, .plain,#[some (.ref a),some (.ref b),some (.ref c),none,some (.str m k),none,some (.ref 0)]⟩
noncomputable def bm(v w:Value):Obj:=⟨.type "builtin_function_or_method",none, .fields #[v,w],#[]⟩
noncomputable def su(a:Nat):Obj:=⟨.type "super",none, .fields #[.ref a, .ref a, .ref a],#[]⟩
noncomputable def cl(n:Str)(b m:List Value)(d:Nat)(s:List Value)(t k j:Nat)(v:Value):Obj:=⟨.type "type",none, .cls ⟨n,b,m,d,n,true,[],s,false,none,false⟩,#[some (.ref t),none,some (.str n k),some (.str n j),some v,some (.bool true)]⟩
noncomputable def sb(o:Obj)(l:List Value):Obj:=match o with|⟨c,d, .cls x,t⟩=>⟨c,d, .cls {x with subclasses:=x.subclasses++l},t⟩|_=>o
noncomputable def gA(l:List Obj):BT->Nat->BT:=@List.rec Obj (λ_=>BT->Nat->BT) (λt _=>t) (λo _ b t a=>b (t.ins a o) (Nat.succ a)) l
end HD
end
section
namespace K56
open PySem PySem.W PySem.Calls PyProof.Rows
noncomputable abbrev pw:Program:=PySem.Challenge.pw_keeper_k56_shown_word_by_word
noncomputable def ht(i:Nat):Stmt:=pw.main.body.getD i (.Pass ⟨0,0,0,0⟩)
noncomputable def V5:Str:= .ofString "__name__"
noncomputable def vx:Str:= .ofString "__doc__"
noncomputable def WX:Str:= .ofString "__package__"
noncomputable def We:Str:= .ofString "__loader__"
noncomputable def Wr:Str:= .ofString "__spec__"
noncomputable def Zx9:Str:= .ofString "all"
noncomputable def ZG:Str:= .ofString "next"
noncomputable def MV:Str:= .ofString "__main__"
noncomputable def By:Str:= .ofString "__annotations__"
noncomputable def BY:Str:= .ofString "__builtins__"
noncomputable def AK:Str:= .ofString "__file__"
noncomputable def aJ:Str:= .ofString "/claim/cut.py"
noncomputable def AI:Str:= .ofString "__cached__"
noncomputable def Lb:Str:= .ofString "<module>"
noncomputable def iG:Str:= .ofString "_wall"
noncomputable def Rm:Str:= .ofString "k"
noncomputable def aK:Str:= .ofString "keeper.errors"
noncomputable def lC:Str:= .ofString "KeeperError"
noncomputable def bQ:Str:= .ofString "__module__"
noncomputable def eU:Str:= .ofString "__qualname__"
noncomputable def bS:Str:= .ofString "__firstlineno__"
noncomputable def aD:Str:= .ofString "small_name"
noncomputable def bT:Str:= .ofString "__static_attributes__"
noncomputable def eX:Str:= .ofString "self"
noncomputable def EX:Str:= .ofString "KeeperError.small_name"
noncomputable def MO:Str:= .ofString "__weakref__"
noncomputable def lI:Str:= .ofString "Great"
noncomputable def F7:Str:= .ofString "Great.small_name"
noncomputable def kF:Str:= .ofString "NoPlace"
noncomputable def GI:Str:= .ofString "NoPlace.small_name"
noncomputable def lg:Str:= .ofString "NoStep"
noncomputable def Fc:Str:= .ofString "NoStep.small_name"
noncomputable def lx:Str:= .ofString "Dry"
noncomputable def Hk:Str:= .ofString "Dry.small_name"
noncomputable def lp:Str:= .ofString "NoVariable"
noncomputable def Fw:Str:= .ofString "NoVariable.small_name"
noncomputable def kM:Str:= .ofString "NoName"
noncomputable def Hz:Str:= .ofString "NoName.small_name"
noncomputable def kE:Str:= .ofString "NotAll"
noncomputable def Hj:Str:= .ofString "NotAll.small_name"
noncomputable def lQ:Str:= .ofString "NotSome"
noncomputable def HJ:Str:= .ofString "NotSome.small_name"
noncomputable def lW:Str:= .ofString "NotSame"
noncomputable def EN:Str:= .ofString "NotSame.small_name"
noncomputable def kX:Str:= .ofString "Unlike"
noncomputable def Ef:Str:= .ofString "Unlike.small_name"
noncomputable def kQ:Str:= .ofString "NoText"
noncomputable def G4:Str:= .ofString "NoText.small_name"
noncomputable def lr:Str:= .ofString "NoWord"
noncomputable def Ga:Str:= .ofString "NoWord.small_name"
noncomputable def lO:Str:= .ofString "TwiceTold"
noncomputable def Hh:Str:= .ofString "TwiceTold.small_name"
noncomputable def r_:Str:= .ofString "NotClosed"
noncomputable def HP:Str:= .ofString "NotClosed.small_name"
noncomputable def wV:Str:= .ofString "keeper.things"
noncomputable def Gg:Str:= .ofString "MOST_LETTERS"
noncomputable def EC:Str:= .ofString "LETTERS"
noncomputable def Ec:Str:= .ofString "abcdefghijklmnopqrstuvwxyz"
noncomputable def Et:Str:= .ofString "KIDS_DUE"
noncomputable def TR:Str:= .ofString "nat"
noncomputable def VR:Str:= .ofString "none"
noncomputable def Ms:Str:= .ofString "some"
noncomputable def Ru:Str:= .ofString "same"
noncomputable def Tz:Str:= .ofString "var"
noncomputable def M4:Str:= .ofString "fun"
noncomputable def Tn:Str:= .ofString "app"
noncomputable def Vz:Str:= .ofString "zero"
noncomputable def La:Str:= .ofString "rec"
noncomputable def VD:Str:= .ofString "like"
noncomputable def Mj:Str:= .ofString "carry"
noncomputable def Rj:Str:= .ofString "never"
noncomputable def S_:Str:= .ofString "pair"
noncomputable def Rc:Str:= .ofString "first"
noncomputable def SW:Str:= .ofString "second"
noncomputable def wA:Str:= .ofString "name"
noncomputable def gS:Str:= .ofString "kind"
noncomputable def dN:Str:= .ofString "term"
noncomputable def K6:Str:= .ofString "BINDER_OVER"
noncomputable def kZ:Str:= .ofString "is_name"
noncomputable def kD:Str:= .ofString "kids_of"
noncomputable def qz:Str:= .ofString "thing"
noncomputable def lG:Str:= .ofString "binds_of"
noncomputable def k9:Str:= .ofString "depth_of"
noncomputable def MK:Str:= .ofString "keeper.putting"
noncomputable def ll:Str:= .ofString "numbers_free"
noncomputable def RC:Str:= .ofString "binders"
noncomputable def UP:Str:= .ofString "numbers"
noncomputable def F5:Str:= .ofString "kid"
noncomputable def Mf:Str:= .ofString "bound"
noncomputable def lY:Str:= .ofString "free_in"
noncomputable def rq:Str:= .ofString "keeper.showing"
noncomputable def lJ:Str:= .ofString "names_in"
noncomputable def Vm:Str:= .ofString "found"
noncomputable def kS:Str:= .ofString "name_after"
noncomputable def VW:Str:= .ofString "stem"
noncomputable def SA:Str:= .ofString "rest"
noncomputable def kO:Str:= .ofString "names_left"
noncomputable def KW:Str:= .ofString "count"
noncomputable def LK:Str:= .ofString "taken"
noncomputable def LG:Str:= .ofString "left"
noncomputable def lP:Str:= .ofString "number_told"
noncomputable def Rh:Str:= .ofString "here"
noncomputable def rT:Str:= .ofString "text_of"
noncomputable def UN:Str:= .ofString "around"
noncomputable def Vl:Str:= .ofString "number"
noncomputable def UI:Str:= .ofString "kids"
noncomputable def Uj:Str:= .ofString "parts"
noncomputable def VB:Str:= .ofString "inner"
noncomputable def rk:Str:= .ofString "shown"
noncomputable def T9:Str:= .ofString "names"
noncomputable def T6:Str:= .ofString "free"
noncomputable def d6:Str:= .ofString "law_keeper_k56_shown_word_by_word"
noncomputable def rQ:Str:= .ofString "_law_cell_at"
noncomputable def Hs:Str:= .ofString "_law_script"
noncomputable def tD:Str:= .ofString "_law_k"
noncomputable def qa:Str:= .ofString "_law_shape"
noncomputable def EI:Str:= .ofString "_law_word"
noncomputable def qY:Str:= .ofString "_law_leaf"
noncomputable def Lo:Str:= .ofString "_law_cell"
noncomputable def D7:Str:= .ofString "_law_want"
noncomputable def FO:Str:= .ofString "_law_over"
noncomputable def LJ:Str:= .ofString "_law_state"
noncomputable def MS:Str:= .ofString "_law_many"
noncomputable def lS:Str:= .ofString "_law_thing_here"
noncomputable def rD:Str:= .ofString "_law_bound"
noncomputable def rh:Str:= .ofString "_law_thing"
noncomputable def Ul:Str:= .ofString "_law_deep"
noncomputable def RY:Str:= .ofString "_law_forms"
noncomputable def UA:Str:= .ofString "_law_kids"
noncomputable def Na:Str:= .ofString "_law_under"
noncomputable def qj:Str:= .ofString "_law_names"
noncomputable def qR:Str:= .ofString "_law_greatest"
noncomputable def Fd:Str:= .ofString "_law_found"
noncomputable def qN:Str:= .ofString "_law_kept"
noncomputable def qb:Str:= .ofString "_law_first"
noncomputable def UG:Str:= .ofString "_law_taken"
noncomputable def Te:Str:= .ofString "_law_some"
noncomputable def KQ:Str:= .ofString "_law_sign"
noncomputable def Va:Str:= .ofString "_law_head"
noncomputable def rm:Str:= .ofString "_law_words"
noncomputable def LY:Str:= .ofString "_law_line"
noncomputable def UQ:Str:= .ofString "_law_run"
noncomputable def rC:Str:= .ofString "_law_figures"
noncomputable def qO:Str:= .ofString "_law_alone"
noncomputable def Lf:Str:= .ofString "_law_scope"
noncomputable def q_:Str:= .ofString "_law_gone"
noncomputable def L7:Str:= .ofString "_law_told"
noncomputable def U2:Str:= .ofString "_law_at"
noncomputable def Sx:Str:= .ofString "_law_kept_here"
noncomputable def qA:Str:= .ofString "_law_refused"
noncomputable def M3:Str:= .ofString "_law_names_here"
noncomputable def RA:Str:= .ofString "e"
noncomputable def qH:Str:= .ofString "law"
noncomputable def T3:Str:= .ofString "_law_handed"
variable(P:Params)
noncomputable def cR:Env:={scope:=pw.main.scope,locals:=mainNs,globals:=mainNs,cells:=[],code:=(.ref 13),frame:=some (nat_lit 14)}
noncomputable def bN:Code:= .body (behindTheImports pw) cR
noncomputable def cH:List Frame:=[topFrame ⟨0,0,0,0⟩]
noncomputable abbrev W_:World->OsState->Shared:=HD.Tv boot_heap boot_drawn boot_toks
def ae:=HD.tp []
def aA:=HD.fl []
def FH:=HD.cd Lb Lb aJ 182 183 184 1 0 0 0 0 11 false 181 12 .none .none .none .none 185 1 186
def HE:=HD.fm 13 3 3 MV 164
noncomputable def U4(r:List (Obj)):List (Obj):=PySem.W.boot_o_0 P::PySem.W.boot_o_1 P::PySem.W.boot_o_2 P::PySem.W.boot_o_3 P::PySem.W.boot_o_4 P::PySem.W.boot_o_5 P::PySem.W.boot_o_6 P::PySem.W.boot_o_7 P::PySem.W.boot_o_8 P::PySem.W.boot_o_9 P::PySem.W.boot_o_10 P::ae::r
noncomputable def VE(r:List (Obj)):List (Obj):=aA::FH::HE::r
noncomputable def ZHa(P:Params):Heap:=⟨Array.mk (U4 P (VE [])),⟨[],[],[],0,[],[],false,#[],[],0,false,false,false,(.ofNat 0),[(.ofNat 2000),(.ofNat 10),(.ofNat 10)],false,0,true,[],[],0,false⟩⟩
noncomputable def Zda:Drawn:=⟨0,0,0,0⟩
noncomputable def Zka:Nat:=nat_lit 187
noncomputable abbrev Q3:World->OsState->Shared:=HD.Tv ZHa Zda Zka
noncomputable def Zqa:HD.gE (Option (Shared×Thread)):=λw=>(λos=>topGo treeTable pw w (nat_lit 11) (some (.ref 6)) (nat_lit 12) (W_ w os) (topStub pw),λos=>some (Q3 w os,Thread.mk (denote treeTable bN) bN ⟨0,0,0,0⟩ cH))
theorem Nr:HD.pre pw (nat_lit 11) (some (.ref 6)) (nat_lit 12) W_ Q3 (topStub pw) (Thread.mk (denote treeTable bN) bN ⟨0,0,0,0⟩ cH)=Zqa:=by kernel_rfl
name_quick Lm for Zqa by Nr
theorem Zia(w:World):(Fast.Lm w).1=(Fast.Lm w).2:=by kernel_rfl
theorem Zha:HD.Ok (HD.pre pw (nat_lit 11) (some (.ref 6)) (nat_lit 12) W_ Q3 (topStub pw) (Thread.mk (denote treeTable bN) bN ⟨0,0,0,0⟩ cH)):=HD.gb Fast.Lm_eq Zia
noncomputable def RZ(r:List (Obj)):List (Obj):=PySem.W.boot_o_0 P::PySem.W.boot_o_1 P::PySem.W.boot_o_2 P::PySem.W.boot_o_3 P::PySem.W.boot_o_4 P::PySem.W.boot_o_5 P::PySem.W.boot_o_6 P::PySem.W.boot_o_7 P::PySem.W.boot_o_8 P::PySem.W.boot_o_9 P::PySem.W.boot_o_10 P::ae::r
noncomputable def T_(r:List (Obj)):List (Obj):=aA::FH::HE::r
noncomputable def ZTb(P:Params):BT:=HD.mkT (RZ P (T_ []))
noncomputable def fO:Life:=⟨[],[],[],0,[],[],false,#[],[],0,false,false,false,(.ofNat 0),[(.ofNat 2000),(.ofNat 10),(.ofNat 10)],false,0,true,[],[],0,false⟩
noncomputable abbrev QI(w:World)(os:OsState):SharedT:=⟨ZTb w.params,nat_lit 15,fO,Array.mk [],⟨0,0,0,0⟩,nat_lit 187,os⟩
noncomputable def Zqb:HD.gE (Option (Flow×Shared×Code×Pos)):=λw=>(λos=>segRun treeTable pw w (nat_lit 11) (some (.ref 6)) (nat_lit 1) (nat_lit 1) (Q3 w os) (blockOf (behindTheImports pw) cR bN ⟨0,0,0,0⟩ cH),λos=>some (Flow.next,(QI w os).abs,bN,⟨0,0,0,0⟩))
theorem NQ:HD.Xe pw (nat_lit 11) (some (.ref 6)) (nat_lit 1) Q3 QI (behindTheImports pw) cR bN ⟨0,0,0,0⟩ ⟨0,0,0,0⟩ cH=Zqb:=by kernel_rfl
name_quick M8 for Zqb by NQ
theorem Zib(w:World):(Fast.M8 w).1=(Fast.M8 w).2:=by kernel_rfl
theorem Zhb:HD.Ok (HD.Xe pw (nat_lit 11) (some (.ref 6)) (nat_lit 1) Q3 QI (behindTheImports pw) cR bN ⟨0,0,0,0⟩ ⟨0,0,0,0⟩ cH):=HD.gb Fast.M8_eq Zib
def Tf:=HD.dc [HD.e P V5 165 (.str aK 194),HD.e P vx 166 .none,HD.e P WX 167 .none,HD.e P We 168 (.builtin "__main__.__loader__#opaque"),HD.e P Wr 169 .none,HD.e P By 170 (.ref 6),HD.e P BY 171 (.ref 4),HD.e P AK 173 (.str aJ 172),HD.e P AI 174 .none,HD.e P iG 193 (.ref 21),HD.e P lC 220 (.ref 38)] 11
def MZ:=HD.fl [(HD.i 1),(HD.i 0),(.ref 20),(HD.i 5),(HD.i 0),(.ref 27)]
def BI:=HD.tp [(.str Rm 190)]
def Lv:=HD.fs iG iG (ht 0)
def Am:=HD.cd iG iG aJ 187 188 189 1 1 0 0 3 15 true 181 16 .none (.ref 17) (.ref 18) (.ref 19) 191 1 192
def Bs:=HD.fu iG iG (ht 0) MV 164 20
def zQ:=HD.tp [(.type "ValueError")]
def bR:=HD.bm (.builtin "type.__prepare__") (.type "type")
def LO:=HD.dc [HD.e P bQ 203 (.str aK 194),HD.e P eU 205 (.str lC 204),HD.e P bS 207 (.int (.ofNat 5) 206),HD.e P aD 214 (.ref 35),HD.e P bT 215 (.ref 36)] 5
def MY:=HD.fl [(HD.i 7),(HD.i 4),(.ref 34)]
def Lq:=HD.cd lC lC aJ 198 199 200 5 0 0 0 0 25 false 181 26 .none .none .none .none 201 5 202
def MG:=HD.fm 27 3 24 aK 194
def Bb:=HD.tp [(.str eX 211)]
def LN:=HD.fs aD EX (L2.inClass (ht 2) 0)
def A9:=HD.cd aD EX aJ 208 209 210 7 1 0 0 3 29 true 181 30 .none (.ref 31) (.ref 32) (.ref 33) 212 7 213
def Aw:=HD.fu aD EX (L2.inClass (ht 2) 0) aK 194 34
def Cg:=HD.dc [HD.e P bQ 203 (.str aK 194),HD.e P bS 207 (.int (.ofNat 5) 206),HD.e P aD 214 (.ref 35),HD.e P bT 215 (.ref 36),HD.e P MO 217 (.ref 39),HD.e P vx 218 .none] 3
def MC:=HD.cl lC [(.type "ValueError")] [(.ref 38),(.type "ValueError"),(.type "Exception"),(.type "BaseException"),(.type "object")] 37 [] 22 196 204 (.builtin "ValueError.__new__")
noncomputable def zV:Obj:=⟨(.type "getset_descriptor"),none,(.fields #[(.str MO 216),(.ref 38),(.builtin "ExceptionGroup.__weakref__"), .none]),#[]⟩
def Lg:=HD.su 38
def M_:=HD.bm (.builtin "object.__init_subclass__") (.ref 38)
noncomputable def V7:List Stmt:=[ht 0,ht 1,ht 2]
noncomputable def ZT1(P:Params):BT:=(HD.gA [ae,aA,BI,ae,Lv,Am,Bs,zQ,bR,LO P,ae,MY,Lq,MG,ae,aA,Bb,ae,LN,A9,Aw,ae,Cg P,MC,zV,Lg,M_] (((ZTb P).ins (nat_lit 3) (Tf P)).ins (nat_lit 12) (MZ)) (nat_lit 15))
noncomputable abbrev QG(w:World)(os:OsState):SharedT:=⟨ZT1 w.params,nat_lit 42,fO,Array.mk [],⟨0,0,0,0⟩,nat_lit 221,os⟩
noncomputable def Zq1:HD.gE (HD.F4):=λw=>(λos=>segRunT treeTable pw w (nat_lit 11) (some (.ref 6)) (nat_lit 1) (nat_lit 255) (QI w os) (piecesOf V7 cR bN ⟨0,0,0,0⟩ cH),λos=>some (Flow.next,QG w os,bN,⟨5,0,8,16⟩))
theorem Pn:HD.seg pw (nat_lit 11) (some (.ref 6)) (nat_lit 255) QI QG V7 cR bN ⟨0,0,0,0⟩ ⟨5,0,8,16⟩ cH=Zq1:=by kernel_rfl
name_quick Mr for Zq1 by Pn
theorem Zi1(w:World):(Fast.Mr w).1=(Fast.Mr w).2:=by kernel_rfl
theorem Zh1:HD.Ok (HD.seg pw (nat_lit 11) (some (.ref 6)) (nat_lit 255) QI QG V7 cR bN ⟨0,0,0,0⟩ ⟨5,0,8,16⟩ cH):=HD.gb Fast.Mr_eq Zi1
def Su:=HD.dm (Tf P) [HD.e P lI 243 (.ref 58)] 12
def Mp:=HD.fa (MZ) [(HD.i 9),(HD.i 0),(.ref 47)]
def MJ:=HD.sb (MC) [(.ref 58)]
def aR:=HD.tp [(.ref 38)]
def Ld:=HD.dc [HD.e P bQ 228 (.str aK 194),HD.e P eU 230 (.str lI 229),HD.e P bS 232 (.int (.ofNat 9) 231),HD.e P aD 239 (.ref 55),HD.e P bT 240 (.ref 56)] 5
def MU:=HD.fl [(HD.i 11),(HD.i 4),(.ref 54)]
def MD:=HD.cd lI lI aJ 223 224 225 9 0 0 0 0 45 false 181 46 .none .none .none .none 226 9 227
def KO:=HD.fm 47 3 44 aK 194
def Bt:=HD.tp [(.str eX 236)]
def Nf:=HD.fs aD F7 (L2.inClass (ht 3) 0)
def AY:=HD.cd aD F7 aJ 233 234 235 11 1 0 0 3 49 true 181 50 .none (.ref 51) (.ref 52) (.ref 53) 237 11 238
def AJ:=HD.fu aD F7 (L2.inClass (ht 3) 0) aK 194 54
def AD:=HD.dc [HD.e P bQ 228 (.str aK 194),HD.e P bS 232 (.int (.ofNat 9) 231),HD.e P aD 239 (.ref 55),HD.e P bT 240 (.ref 56),HD.e P vx 241 .none] 2
def AA:=HD.cl lI [(.ref 38)] [(.ref 58),(.ref 38),(.type "ValueError"),(.type "Exception"),(.type "BaseException"),(.type "object")] 57 [] 42 221 229 (.builtin "ValueError.__new__")
def Lr:=HD.su 58
def Mo:=HD.bm (.builtin "object.__init_subclass__") (.ref 58)
noncomputable def Wx:List Stmt:=[ht 3]
noncomputable def ZT2(P:Params):BT:=(HD.gA [aR,bR,Ld P,ae,MU,MD,KO,ae,aA,Bt,ae,Nf,AY,AJ,ae,AD P,AA,Lr,Mo] ((((ZT1 P).ins (nat_lit 3) (Su P)).ins (nat_lit 12) (Mp)).ins (nat_lit 38) (MJ)) (nat_lit 42))
noncomputable abbrev QS(w:World)(os:OsState):SharedT:=⟨ZT2 w.params,nat_lit 61,fO,Array.mk [],⟨0,0,0,0⟩,nat_lit 244,os⟩
noncomputable def Zq2:HD.gE (HD.F4):=λw=>(λos=>segRunT treeTable pw w (nat_lit 11) (some (.ref 6)) (nat_lit 1) (nat_lit 244) (QG w os) (piecesOf Wx cR bN ⟨5,0,8,16⟩ cH),λos=>some (Flow.next,QS w os,bN,⟨9,0,12,16⟩))
theorem Ql:HD.seg pw (nat_lit 11) (some (.ref 6)) (nat_lit 244) QG QS Wx cR bN ⟨5,0,8,16⟩ ⟨9,0,12,16⟩ cH=Zq2:=by kernel_rfl
name_quick LM for Zq2 by Ql
theorem Zi2(w:World):(Fast.LM w).1=(Fast.LM w).2:=by kernel_rfl
theorem Zh2:HD.Ok (HD.seg pw (nat_lit 11) (some (.ref 6)) (nat_lit 244) QG QS Wx cR bN ⟨5,0,8,16⟩ ⟨9,0,12,16⟩ cH):=HD.gb Fast.LM_eq Zi2
def S7:=HD.dm (Su P) [HD.e P kF 266 (.ref 77)] 13
def MF:=HD.fa (Mp) [(HD.i 13),(HD.i 0),(.ref 66)]
def MH:=HD.sb (MJ) [(.ref 77)]
def K_:=HD.dc [HD.e P bQ 251 (.str aK 194),HD.e P eU 253 (.str kF 252),HD.e P bS 255 (.int (.ofNat 13) 254),HD.e P aD 262 (.ref 74),HD.e P bT 263 (.ref 75)] 5
def Nc:=HD.fl [(HD.i 15),(HD.i 4),(.ref 73)]
def KY:=HD.cd kF kF aJ 246 247 248 13 0 0 0 0 64 false 181 65 .none .none .none .none 249 13 250
def Ls:=HD.fm 66 3 63 aK 194
def AV:=HD.tp [(.str eX 259)]
def Lp:=HD.fs aD GI (L2.inClass (ht 4) 0)
def Ag:=HD.cd aD GI aJ 256 257 258 15 1 0 0 3 68 true 181 69 .none (.ref 70) (.ref 71) (.ref 72) 260 15 261
def Ai:=HD.fu aD GI (L2.inClass (ht 4) 0) aK 194 73
def Be:=HD.dc [HD.e P bQ 251 (.str aK 194),HD.e P bS 255 (.int (.ofNat 13) 254),HD.e P aD 262 (.ref 74),HD.e P bT 263 (.ref 75),HD.e P vx 264 .none] 2
def Bv:=HD.cl kF [(.ref 38)] [(.ref 77),(.ref 38),(.type "ValueError"),(.type "Exception"),(.type "BaseException"),(.type "object")] 76 [] 61 244 252 (.builtin "ValueError.__new__")
def M9:=HD.su 77
def MB:=HD.bm (.builtin "object.__init_subclass__") (.ref 77)
noncomputable def Wd:List Stmt:=[ht 4]
noncomputable def ZT3(P:Params):BT:=(HD.gA [aR,bR,K_ P,ae,Nc,KY,Ls,ae,aA,AV,ae,Lp,Ag,Ai,ae,Be P,Bv,M9,MB] ((((ZT2 P).ins (nat_lit 3) (S7 P)).ins (nat_lit 12) (MF)).ins (nat_lit 38) (MH)) (nat_lit 61))
noncomputable abbrev QJ(w:World)(os:OsState):SharedT:=⟨ZT3 w.params,nat_lit 80,fO,Array.mk [],⟨0,0,0,0⟩,nat_lit 267,os⟩
noncomputable def Zq3:HD.gE (HD.F4):=λw=>(λos=>segRunT treeTable pw w (nat_lit 11) (some (.ref 6)) (nat_lit 1) (nat_lit 244) (QS w os) (piecesOf Wd cR bN ⟨9,0,12,16⟩ cH),λos=>some (Flow.next,QJ w os,bN,⟨13,0,16,16⟩))
theorem P4:HD.seg pw (nat_lit 11) (some (.ref 6)) (nat_lit 244) QS QJ Wd cR bN ⟨9,0,12,16⟩ ⟨13,0,16,16⟩ cH=Zq3:=by kernel_rfl
name_quick LI for Zq3 by P4
theorem Zi3(w:World):(Fast.LI w).1=(Fast.LI w).2:=by kernel_rfl
theorem Zh3:HD.Ok (HD.seg pw (nat_lit 11) (some (.ref 6)) (nat_lit 244) QS QJ Wd cR bN ⟨9,0,12,16⟩ ⟨13,0,16,16⟩ cH):=HD.gb Fast.LI_eq Zi3
def Ue:=HD.dm (S7 P) [HD.e P lg 289 (.ref 96)] 14
def K4:=HD.fa (MF) [(HD.i 17),(HD.i 0),(.ref 85)]
def M0:=HD.sb (MH) [(.ref 96)]
def MA:=HD.dc [HD.e P bQ 274 (.str aK 194),HD.e P eU 276 (.str lg 275),HD.e P bS 278 (.int (.ofNat 17) 277),HD.e P aD 285 (.ref 93),HD.e P bT 286 (.ref 94)] 5
def Mv:=HD.fl [(HD.i 19),(HD.i 4),(.ref 92)]
def LV:=HD.cd lg lg aJ 269 270 271 17 0 0 0 0 83 false 181 84 .none .none .none .none 272 17 273
def MI:=HD.fm 85 3 82 aK 194
def CA:=HD.tp [(.str eX 282)]
def Ly:=HD.fs aD Fc (L2.inClass (ht 5) 0)
def AZ:=HD.cd aD Fc aJ 279 280 281 19 1 0 0 3 87 true 181 88 .none (.ref 89) (.ref 90) (.ref 91) 283 19 284
def Ar:=HD.fu aD Fc (L2.inClass (ht 5) 0) aK 194 92
def Cr:=HD.dc [HD.e P bQ 274 (.str aK 194),HD.e P bS 278 (.int (.ofNat 17) 277),HD.e P aD 285 (.ref 93),HD.e P bT 286 (.ref 94),HD.e P vx 287 .none] 2
def Af:=HD.cl lg [(.ref 38)] [(.ref 96),(.ref 38),(.type "ValueError"),(.type "Exception"),(.type "BaseException"),(.type "object")] 95 [] 80 267 275 (.builtin "ValueError.__new__")
def Mx:=HD.su 96
def MM:=HD.bm (.builtin "object.__init_subclass__") (.ref 96)
noncomputable def Wy:List Stmt:=[ht 5]
noncomputable def ZT4(P:Params):BT:=(HD.gA [aR,bR,MA P,ae,Mv,LV,MI,ae,aA,CA,ae,Ly,AZ,Ar,ae,Cr P,Af,Mx,MM] ((((ZT3 P).ins (nat_lit 3) (Ue P)).ins (nat_lit 12) (K4)).ins (nat_lit 38) (M0)) (nat_lit 80))
noncomputable abbrev QM(w:World)(os:OsState):SharedT:=⟨ZT4 w.params,nat_lit 99,fO,Array.mk [],⟨0,0,0,0⟩,nat_lit 290,os⟩
noncomputable def Zq4:HD.gE (HD.F4):=λw=>(λos=>segRunT treeTable pw w (nat_lit 11) (some (.ref 6)) (nat_lit 1) (nat_lit 244) (QJ w os) (piecesOf Wy cR bN ⟨13,0,16,16⟩ cH),λos=>some (Flow.next,QM w os,bN,⟨17,0,20,16⟩))
theorem P5:HD.seg pw (nat_lit 11) (some (.ref 6)) (nat_lit 244) QJ QM Wy cR bN ⟨13,0,16,16⟩ ⟨17,0,20,16⟩ cH=Zq4:=by kernel_rfl
name_quick Mz for Zq4 by P5
theorem Zi4(w:World):(Fast.Mz w).1=(Fast.Mz w).2:=by kernel_rfl
theorem Zh4:HD.Ok (HD.seg pw (nat_lit 11) (some (.ref 6)) (nat_lit 244) QJ QM Wy cR bN ⟨13,0,16,16⟩ ⟨17,0,20,16⟩ cH):=HD.gb Fast.Mz_eq Zi4
def Ux:=HD.dm (Ue P) [HD.e P lx 312 (.ref 115)] 15
def Mb:=HD.fa (K4) [(HD.i 21),(HD.i 0),(.ref 104)]
def MQ:=HD.sb (M0) [(.ref 115)]
def G1:=HD.dc [HD.e P bQ 297 (.str aK 194),HD.e P eU 299 (.str lx 298),HD.e P bS 301 (.int (.ofNat 21) 300),HD.e P aD 308 (.ref 112),HD.e P bT 309 (.ref 113)] 5
def Fq:=HD.fl [(HD.i 23),(HD.i 4),(.ref 111)]
def Ed:=HD.cd lx lx aJ 292 293 294 21 0 0 0 0 102 false 181 103 .none .none .none .none 295 21 296
def HQ:=HD.fm 104 3 101 aK 194
def uh:=HD.tp [(.str eX 305)]
def Gy:=HD.fs aD Hk (L2.inClass (ht 6) 0)
def ub:=HD.cd aD Hk aJ 302 303 304 23 1 0 0 3 106 true 181 107 .none (.ref 108) (.ref 109) (.ref 110) 306 23 307
def wk:=HD.fu aD Hk (L2.inClass (ht 6) 0) aK 194 111
def vQ:=HD.dc [HD.e P bQ 297 (.str aK 194),HD.e P bS 301 (.int (.ofNat 21) 300),HD.e P aD 308 (.ref 112),HD.e P bT 309 (.ref 113),HD.e P vx 310 .none] 2
def vi:=HD.cl lx [(.ref 38)] [(.ref 115),(.ref 38),(.type "ValueError"),(.type "Exception"),(.type "BaseException"),(.type "object")] 114 [] 99 290 298 (.builtin "ValueError.__new__")
def Ff:=HD.su 115
def HR:=HD.bm (.builtin "object.__init_subclass__") (.ref 115)
noncomputable def Ws:List Stmt:=[ht 6]
noncomputable def ZT5(P:Params):BT:=(HD.gA [aR,bR,G1 P,ae,Fq,Ed,HQ,ae,aA,uh,ae,Gy,ub,wk,ae,vQ P,vi,Ff,HR] ((((ZT4 P).ins (nat_lit 3) (Ux P)).ins (nat_lit 12) (Mb)).ins (nat_lit 38) (MQ)) (nat_lit 99))
noncomputable abbrev QQ(w:World)(os:OsState):SharedT:=⟨ZT5 w.params,nat_lit 118,fO,Array.mk [],⟨0,0,0,0⟩,nat_lit 313,os⟩
noncomputable def Zq5:HD.gE (HD.F4):=λw=>(λos=>segRunT treeTable pw w (nat_lit 11) (some (.ref 6)) (nat_lit 1) (nat_lit 244) (QM w os) (piecesOf Ws cR bN ⟨17,0,20,16⟩ cH),λos=>some (Flow.next,QQ w os,bN,⟨21,0,24,16⟩))
theorem Pa:HD.seg pw (nat_lit 11) (some (.ref 6)) (nat_lit 244) QM QQ Ws cR bN ⟨17,0,20,16⟩ ⟨21,0,24,16⟩ cH=Zq5:=by kernel_rfl
name_quick L5 for Zq5 by Pa
theorem Zi5(w:World):(Fast.L5 w).1=(Fast.L5 w).2:=by kernel_rfl
theorem Zh5:HD.Ok (HD.seg pw (nat_lit 11) (some (.ref 6)) (nat_lit 244) QM QQ Ws cR bN ⟨17,0,20,16⟩ ⟨21,0,24,16⟩ cH):=HD.gb Fast.L5_eq Zi5
def VU:=HD.dm (Ux P) [HD.e P lp 335 (.ref 134)] 16
def Ln:=HD.fa (Mb) [(HD.i 25),(HD.i 0),(.ref 123)]
def Mm:=HD.sb (MQ) [(.ref 134)]
def FZ:=HD.dc [HD.e P bQ 320 (.str aK 194),HD.e P eU 322 (.str lp 321),HD.e P bS 324 (.int (.ofNat 25) 323),HD.e P aD 331 (.ref 131),HD.e P bT 332 (.ref 132)] 5
def D8:=HD.fl [(HD.i 27),(HD.i 4),(.ref 130)]
def Gm:=HD.cd lp lp aJ 315 316 317 25 0 0 0 0 121 false 181 122 .none .none .none .none 318 25 319
def Gv:=HD.fm 123 3 120 aK 194
def va:=HD.tp [(.str eX 328)]
def Gj:=HD.fs aD Fw (L2.inClass (ht 7) 0)
def vo:=HD.cd aD Fw aJ 325 326 327 27 1 0 0 3 125 true 181 126 .none (.ref 127) (.ref 128) (.ref 129) 329 27 330
def uS:=HD.fu aD Fw (L2.inClass (ht 7) 0) aK 194 130
def uO:=HD.dc [HD.e P bQ 320 (.str aK 194),HD.e P bS 324 (.int (.ofNat 25) 323),HD.e P aD 331 (.ref 131),HD.e P bT 332 (.ref 132),HD.e P vx 333 .none] 2
def uV:=HD.cl lp [(.ref 38)] [(.ref 134),(.ref 38),(.type "ValueError"),(.type "Exception"),(.type "BaseException"),(.type "object")] 133 [] 118 313 321 (.builtin "ValueError.__new__")
def GH:=HD.su 134
def FC:=HD.bm (.builtin "object.__init_subclass__") (.ref 134)
noncomputable def Wm:List Stmt:=[ht 7]
noncomputable def Z7(P:Params):BT:=(HD.gA [aR,bR,FZ P,ae,D8,Gm,Gv,ae,aA,va,ae,Gj,vo,uS,ae,uO P,uV,GH,FC] ((((ZT5 P).ins (nat_lit 3) (VU P)).ins (nat_lit 12) (Ln)).ins (nat_lit 38) (Mm)) (nat_lit 118))
noncomputable abbrev QZ(w:World)(os:OsState):SharedT:=⟨Z7 w.params,nat_lit 137,fO,Array.mk [],⟨0,0,0,0⟩,nat_lit 336,os⟩
noncomputable def Zq6:HD.gE (HD.F4):=λw=>(λos=>segRunT treeTable pw w (nat_lit 11) (some (.ref 6)) (nat_lit 1) (nat_lit 244) (QQ w os) (piecesOf Wm cR bN ⟨21,0,24,16⟩ cH),λos=>some (Flow.next,QZ w os,bN,⟨25,0,28,16⟩))
theorem O8:HD.seg pw (nat_lit 11) (some (.ref 6)) (nat_lit 244) QQ QZ Wm cR bN ⟨21,0,24,16⟩ ⟨25,0,28,16⟩ cH=Zq6:=by kernel_rfl
name_quick M6 for Zq6 by O8
theorem Zi6(w:World):(Fast.M6 w).1=(Fast.M6 w).2:=by kernel_rfl
theorem Zh6:HD.Ok (HD.seg pw (nat_lit 11) (some (.ref 6)) (nat_lit 244) QQ QZ Wm cR bN ⟨21,0,24,16⟩ ⟨25,0,28,16⟩ cH):=HD.gb Fast.M6_eq Zi6
def RL:=HD.dm (VU P) [HD.e P kM 358 (.ref 153)] 17
def Lz:=HD.fa (Ln) [(HD.i 29),(HD.i 0),(.ref 142)]
def MP:=HD.sb (Mm) [(.ref 153)]
def Ew:=HD.dc [HD.e P bQ 343 (.str aK 194),HD.e P eU 345 (.str kM 344),HD.e P bS 347 (.int (.ofNat 29) 346),HD.e P aD 354 (.ref 150),HD.e P bT 355 (.ref 151)] 5
def E1:=HD.fl [(HD.i 31),(HD.i 4),(.ref 149)]
def Ez:=HD.cd kM kM aJ 338 339 340 29 0 0 0 0 140 false 181 141 .none .none .none .none 341 29 342
def El:=HD.fm 142 3 139 aK 194
def uu:=HD.tp [(.str eX 351)]
def G3:=HD.fs aD Hz (L2.inClass (ht 8) 0)
def vF:=HD.cd aD Hz aJ 348 349 350 31 1 0 0 3 144 true 181 145 .none (.ref 146) (.ref 147) (.ref 148) 352 31 353
def vD:=HD.fu aD Hz (L2.inClass (ht 8) 0) aK 194 149
def v_:=HD.dc [HD.e P bQ 343 (.str aK 194),HD.e P bS 347 (.int (.ofNat 29) 346),HD.e P aD 354 (.ref 150),HD.e P bT 355 (.ref 151),HD.e P vx 356 .none] 2
def uD:=HD.cl kM [(.ref 38)] [(.ref 153),(.ref 38),(.type "ValueError"),(.type "Exception"),(.type "BaseException"),(.type "object")] 152 [] 137 336 344 (.builtin "ValueError.__new__")
def E8:=HD.su 153
def Fu:=HD.bm (.builtin "object.__init_subclass__") (.ref 153)
noncomputable def Wo:List Stmt:=[ht 8]
noncomputable def ZT7(P:Params):BT:=(HD.gA [aR,bR,Ew P,ae,E1,Ez,El,ae,aA,uu,ae,G3,vF,vD,ae,v_ P,uD,E8,Fu] ((((Z7 P).ins (nat_lit 3) (RL P)).ins (nat_lit 12) (Lz)).ins (nat_lit 38) (MP)) (nat_lit 137))
noncomputable abbrev Qx(w:World)(os:OsState):SharedT:=⟨ZT7 w.params,nat_lit 156,fO,Array.mk [],⟨0,0,0,0⟩,nat_lit 359,os⟩
noncomputable def Zq7:HD.gE (HD.F4):=λw=>(λos=>segRunT treeTable pw w (nat_lit 11) (some (.ref 6)) (nat_lit 1) (nat_lit 244) (QZ w os) (piecesOf Wo cR bN ⟨25,0,28,16⟩ cH),λos=>some (Flow.next,Qx w os,bN,⟨29,0,32,16⟩))
theorem O0:HD.seg pw (nat_lit 11) (some (.ref 6)) (nat_lit 244) QZ Qx Wo cR bN ⟨25,0,28,16⟩ ⟨29,0,32,16⟩ cH=Zq7:=by kernel_rfl
name_quick LF for Zq7 by O0
theorem Zi7(w:World):(Fast.LF w).1=(Fast.LF w).2:=by kernel_rfl
theorem Zh7:HD.Ok (HD.seg pw (nat_lit 11) (some (.ref 6)) (nat_lit 244) QZ Qx Wo cR bN ⟨25,0,28,16⟩ ⟨29,0,32,16⟩ cH):=HD.gb Fast.LF_eq Zi7
def Tx:=HD.dm (RL P) [HD.e P kE 381 (.ref 172)] 18
def L4:=HD.fa (Lz) [(HD.i 33),(HD.i 0),(.ref 161)]
def K9:=HD.sb (MP) [(.ref 172)]
def F2:=HD.dc [HD.e P bQ 366 (.str aK 194),HD.e P eU 368 (.str kE 367),HD.e P bS 370 (.int (.ofNat 33) 369),HD.e P aD 377 (.ref 169),HD.e P bT 378 (.ref 170)] 5
def Fx:=HD.fl [(HD.i 35),(HD.i 4),(.ref 168)]
def HI:=HD.cd kE kE aJ 361 362 363 33 0 0 0 0 159 false 181 160 .none .none .none .none 364 33 365
def GX:=HD.fm 161 3 158 aK 194
def uC:=HD.tp [(.str eX 374)]
def EW:=HD.fs aD Hj (L2.inClass (ht 9) 0)
def vV:=HD.cd aD Hj aJ 371 372 373 35 1 0 0 3 163 true 181 164 .none (.ref 165) (.ref 166) (.ref 167) 375 35 376
def u4:=HD.fu aD Hj (L2.inClass (ht 9) 0) aK 194 168
def uT:=HD.dc [HD.e P bQ 366 (.str aK 194),HD.e P bS 370 (.int (.ofNat 33) 369),HD.e P aD 377 (.ref 169),HD.e P bT 378 (.ref 170),HD.e P vx 379 .none] 2
def vG:=HD.cl kE [(.ref 38)] [(.ref 172),(.ref 38),(.type "ValueError"),(.type "Exception"),(.type "BaseException"),(.type "object")] 171 [] 156 359 367 (.builtin "ValueError.__new__")
def Fn:=HD.su 172
def GK:=HD.bm (.builtin "object.__init_subclass__") (.ref 172)
noncomputable def V2:List Stmt:=[ht 9]
noncomputable def ZT8(P:Params):BT:=(HD.gA [aR,bR,F2 P,ae,Fx,HI,GX,ae,aA,uC,ae,EW,vV,u4,ae,uT P,vG,Fn,GK] ((((ZT7 P).ins (nat_lit 3) (Tx P)).ins (nat_lit 12) (L4)).ins (nat_lit 38) (K9)) (nat_lit 156))
noncomputable abbrev Q8(w:World)(os:OsState):SharedT:=⟨ZT8 w.params,nat_lit 175,fO,Array.mk [],⟨0,0,0,0⟩,nat_lit 382,os⟩
noncomputable def Zq8:HD.gE (HD.F4):=λw=>(λos=>segRunT treeTable pw w (nat_lit 11) (some (.ref 6)) (nat_lit 1) (nat_lit 244) (Qx w os) (piecesOf V2 cR bN ⟨29,0,32,16⟩ cH),λos=>some (Flow.next,Q8 w os,bN,⟨33,0,36,16⟩))
theorem P8:HD.seg pw (nat_lit 11) (some (.ref 6)) (nat_lit 244) Qx Q8 V2 cR bN ⟨29,0,32,16⟩ ⟨33,0,36,16⟩ cH=Zq8:=by kernel_rfl
name_quick Mc for Zq8 by P8
theorem Zi8(w:World):(Fast.Mc w).1=(Fast.Mc w).2:=by kernel_rfl
theorem Zh8:HD.Ok (HD.seg pw (nat_lit 11) (some (.ref 6)) (nat_lit 244) Qx Q8 V2 cR bN ⟨29,0,32,16⟩ ⟨33,0,36,16⟩ cH):=HD.gb Fast.Mc_eq Zi8
def Rr:=HD.dm (Tx P) [HD.e P lQ 404 (.ref 191)] 19
def Me:=HD.fa (L4) [(HD.i 37),(HD.i 0),(.ref 180)]
def LR:=HD.sb (K9) [(.ref 191)]
def Ep:=HD.dc [HD.e P bQ 389 (.str aK 194),HD.e P eU 391 (.str lQ 390),HD.e P bS 393 (.int (.ofNat 37) 392),HD.e P aD 400 (.ref 188),HD.e P bT 401 (.ref 189)] 5
def FW:=HD.fl [(HD.i 39),(HD.i 4),(.ref 187)]
def Hc:=HD.cd lQ lQ aJ 384 385 386 37 0 0 0 0 178 false 181 179 .none .none .none .none 387 37 388
def Eu:=HD.fm 180 3 177 aK 194
def uG:=HD.tp [(.str eX 397)]
def GR:=HD.fs aD HJ (L2.inClass (ht 10) 0)
def uL:=HD.cd aD HJ aJ 394 395 396 39 1 0 0 3 182 true 181 183 .none (.ref 184) (.ref 185) (.ref 186) 398 39 399
def vK:=HD.fu aD HJ (L2.inClass (ht 10) 0) aK 194 187
def uM:=HD.dc [HD.e P bQ 389 (.str aK 194),HD.e P bS 393 (.int (.ofNat 37) 392),HD.e P aD 400 (.ref 188),HD.e P bT 401 (.ref 189),HD.e P vx 402 .none] 2
def wg:=HD.cl lQ [(.ref 38)] [(.ref 191),(.ref 38),(.type "ValueError"),(.type "Exception"),(.type "BaseException"),(.type "object")] 190 [] 175 382 390 (.builtin "ValueError.__new__")
def F0:=HD.su 191
def Ej:=HD.bm (.builtin "object.__init_subclass__") (.ref 191)
noncomputable def Wh:List Stmt:=[ht 10]
noncomputable def ZT9(P:Params):BT:=(HD.gA [aR,bR,Ep P,ae,FW,Hc,Eu,ae,aA,uG,ae,GR,uL,vK,ae,uM P,wg,F0,Ej] ((((ZT8 P).ins (nat_lit 3) (Rr P)).ins (nat_lit 12) (Me)).ins (nat_lit 38) (LR)) (nat_lit 175))
noncomputable abbrev QD(w:World)(os:OsState):SharedT:=⟨ZT9 w.params,nat_lit 194,fO,Array.mk [],⟨0,0,0,0⟩,nat_lit 405,os⟩
noncomputable def Zq9:HD.gE (HD.F4):=λw=>(λos=>segRunT treeTable pw w (nat_lit 11) (some (.ref 6)) (nat_lit 1) (nat_lit 244) (Q8 w os) (piecesOf Wh cR bN ⟨33,0,36,16⟩ cH),λos=>some (Flow.next,QD w os,bN,⟨37,0,40,16⟩))
theorem NX:HD.seg pw (nat_lit 11) (some (.ref 6)) (nat_lit 244) Q8 QD Wh cR bN ⟨33,0,36,16⟩ ⟨37,0,40,16⟩ cH=Zq9:=by kernel_rfl
name_quick KP for Zq9 by NX
theorem Zi9(w:World):(Fast.KP w).1=(Fast.KP w).2:=by kernel_rfl
theorem Zh9:HD.Ok (HD.seg pw (nat_lit 11) (some (.ref 6)) (nat_lit 244) Q8 QD Wh cR bN ⟨33,0,36,16⟩ ⟨37,0,40,16⟩ cH):=HD.gb Fast.KP_eq Zi9
def LB:=HD.dm (Rr P) [HD.e P lW 427 (.ref 210)] 20
def FI:=HD.fa (Me) [(HD.i 41),(HD.i 0),(.ref 199)]
def Hd:=HD.sb (LR) [(.ref 210)]
def AW:=HD.dc [HD.e P bQ 412 (.str aK 194),HD.e P eU 414 (.str lW 413),HD.e P bS 416 (.int (.ofNat 41) 415),HD.e P aD 423 (.ref 207),HD.e P bT 424 (.ref 208)] 5
def CB:=HD.fl [(HD.i 43),(HD.i 4),(.ref 206)]
def As:=HD.cd lW lW aJ 407 408 409 41 0 0 0 0 197 false 181 198 .none .none .none .none 410 41 411
def Cw:=HD.fm 199 3 196 aK 194
def pQ:=HD.tp [(.str eX 420)]
def zX:=HD.fs aD EN (L2.inClass (ht 11) 0)
def oj:=HD.cd aD EN aJ 417 418 419 43 1 0 0 3 201 true 181 202 .none (.ref 203) (.ref 204) (.ref 205) 421 43 422
def oU:=HD.fu aD EN (L2.inClass (ht 11) 0) aK 194 206
def nR:=HD.dc [HD.e P bQ 412 (.str aK 194),HD.e P bS 416 (.int (.ofNat 41) 415),HD.e P aD 423 (.ref 207),HD.e P bT 424 (.ref 208),HD.e P vx 425 .none] 2
def pI:=HD.cl lW [(.ref 38)] [(.ref 210),(.ref 38),(.type "ValueError"),(.type "Exception"),(.type "BaseException"),(.type "object")] 209 [] 194 405 413 (.builtin "ValueError.__new__")
def CD:=HD.su 210
def A6:=HD.bm (.builtin "object.__init_subclass__") (.ref 210)
noncomputable def Kj:List Stmt:=[ht 11]
noncomputable def Uq(P:Params):BT:=(HD.gA [aR,bR,AW P,ae,CB,As,Cw,ae,aA,pQ,ae,zX,oj,oU,ae,nR P,pI,CD,A6] ((((ZT9 P).ins (nat_lit 3) (LB P)).ins (nat_lit 12) (FI)).ins (nat_lit 38) (Hd)) (nat_lit 194))
noncomputable abbrev C8(w:World)(os:OsState):SharedT:=⟨Uq w.params,nat_lit 213,fO,Array.mk [],⟨0,0,0,0⟩,nat_lit 428,os⟩
noncomputable def UZ:HD.gE (HD.F4):=λw=>(λos=>segRunT treeTable pw w (nat_lit 11) (some (.ref 6)) (nat_lit 1) (nat_lit 244) (QD w os) (piecesOf Kj cR bN ⟨37,0,40,16⟩ cH),λos=>some (Flow.next,C8 w os,bN,⟨41,0,44,16⟩))
theorem JR:HD.seg pw (nat_lit 11) (some (.ref 6)) (nat_lit 244) QD C8 Kj cR bN ⟨37,0,40,16⟩ ⟨41,0,44,16⟩ cH=UZ:=by kernel_rfl
name_quick FG for UZ by JR
theorem Yx(w:World):(Fast.FG w).1=(Fast.FG w).2:=by kernel_rfl
theorem XZ:HD.Ok (HD.seg pw (nat_lit 11) (some (.ref 6)) (nat_lit 244) QD C8 Kj cR bN ⟨37,0,40,16⟩ ⟨41,0,44,16⟩ cH):=HD.gb Fast.FG_eq Yx
def Nd:=HD.dm (LB P) [HD.e P kX 450 (.ref 229)] 21
def GS:=HD.fa (FI) [(HD.i 45),(HD.i 0),(.ref 218)]
def Ei:=HD.sb (Hd) [(.ref 229)]
def Bi:=HD.dc [HD.e P bQ 435 (.str aK 194),HD.e P eU 437 (.str kX 436),HD.e P bS 439 (.int (.ofNat 45) 438),HD.e P aD 446 (.ref 226),HD.e P bT 447 (.ref 227)] 5
def Bc:=HD.fl [(HD.i 47),(HD.i 4),(.ref 225)]
def zR:=HD.cd kX kX aJ 430 431 432 45 0 0 0 0 216 false 181 217 .none .none .none .none 433 45 434
def B7:=HD.fm 218 3 215 aK 194
def nV:=HD.tp [(.str eX 443)]
def Bd:=HD.fs aD Ef (L2.inClass (ht 12) 0)
def n9:=HD.cd aD Ef aJ 440 441 442 47 1 0 0 3 220 true 181 221 .none (.ref 222) (.ref 223) (.ref 224) 444 47 445
def pk:=HD.fu aD Ef (L2.inClass (ht 12) 0) aK 194 225
def oE:=HD.dc [HD.e P bQ 435 (.str aK 194),HD.e P bS 439 (.int (.ofNat 45) 438),HD.e P aD 446 (.ref 226),HD.e P bT 447 (.ref 227),HD.e P vx 448 .none] 2
def nS:=HD.cl kX [(.ref 38)] [(.ref 229),(.ref 38),(.type "ValueError"),(.type "Exception"),(.type "BaseException"),(.type "object")] 228 [] 213 428 436 (.builtin "ValueError.__new__")
def B6:=HD.su 229
def Ct:=HD.bm (.builtin "object.__init_subclass__") (.ref 229)
noncomputable def Jw:List Stmt:=[ht 12]
noncomputable def RB(P:Params):BT:=(HD.gA [aR,bR,Bi P,ae,Bc,zR,B7,ae,aA,nV,ae,Bd,n9,pk,ae,oE P,nS,B6,Ct] ((((Uq P).ins (nat_lit 3) (Nd P)).ins (nat_lit 12) (GS)).ins (nat_lit 38) (Ei)) (nat_lit 213))
noncomputable abbrev DD(w:World)(os:OsState):SharedT:=⟨RB w.params,nat_lit 232,fO,Array.mk [],⟨0,0,0,0⟩,nat_lit 451,os⟩
noncomputable def Vj:HD.gE (HD.F4):=λw=>(λos=>segRunT treeTable pw w (nat_lit 11) (some (.ref 6)) (nat_lit 1) (nat_lit 244) (C8 w os) (piecesOf Jw cR bN ⟨41,0,44,16⟩ cH),λos=>some (Flow.next,DD w os,bN,⟨45,0,48,17⟩))
theorem Je:HD.seg pw (nat_lit 11) (some (.ref 6)) (nat_lit 244) C8 DD Jw cR bN ⟨41,0,44,16⟩ ⟨45,0,48,17⟩ cH=Vj:=by kernel_rfl
name_quick F6 for Vj by Je
theorem Xp(w:World):(Fast.F6 w).1=(Fast.F6 w).2:=by kernel_rfl
theorem XU:HD.Ok (HD.seg pw (nat_lit 11) (some (.ref 6)) (nat_lit 244) C8 DD Jw cR bN ⟨41,0,44,16⟩ ⟨45,0,48,17⟩ cH):=HD.gb Fast.F6_eq Xp
def LW:=HD.dm (Nd P) [HD.e P kQ 473 (.ref 248)] 22
def HG:=HD.fa (GS) [(HD.i 49),(HD.i 0),(.ref 237)]
def E_:=HD.sb (Ei) [(.ref 248)]
def A7:=HD.dc [HD.e P bQ 458 (.str aK 194),HD.e P eU 460 (.str kQ 459),HD.e P bS 462 (.int (.ofNat 49) 461),HD.e P aD 469 (.ref 245),HD.e P bT 470 (.ref 246)] 5
def AB:=HD.fl [(HD.i 51),(HD.i 4),(.ref 244)]
def B9:=HD.cd kQ kQ aJ 453 454 455 49 0 0 0 0 235 false 181 236 .none .none .none .none 456 49 457
def Bh:=HD.fm 237 3 234 aK 194
def oO:=HD.tp [(.str eX 466)]
def B_:=HD.fs aD G4 (L2.inClass (ht 13) 0)
def mT:=HD.cd aD G4 aJ 463 464 465 51 1 0 0 3 239 true 181 240 .none (.ref 241) (.ref 242) (.ref 243) 467 51 468
def nC:=HD.fu aD G4 (L2.inClass (ht 13) 0) aK 194 244
def nU:=HD.dc [HD.e P bQ 458 (.str aK 194),HD.e P bS 462 (.int (.ofNat 49) 461),HD.e P aD 469 (.ref 245),HD.e P bT 470 (.ref 246),HD.e P vx 471 .none] 2
def om:=HD.cl kQ [(.ref 38)] [(.ref 248),(.ref 38),(.type "ValueError"),(.type "Exception"),(.type "BaseException"),(.type "object")] 247 [] 232 451 459 (.builtin "ValueError.__new__")
def AM:=HD.su 248
def Ae:=HD.bm (.builtin "object.__init_subclass__") (.ref 248)
noncomputable def JP:List Stmt:=[ht 13]
noncomputable def Uy(P:Params):BT:=(HD.gA [aR,bR,A7 P,ae,AB,B9,Bh,ae,aA,oO,ae,B_,mT,nC,ae,nU P,om,AM,Ae] ((((RB P).ins (nat_lit 3) (LW P)).ins (nat_lit 12) (HG)).ins (nat_lit 38) (E_)) (nat_lit 232))
noncomputable abbrev Dy(w:World)(os:OsState):SharedT:=⟨Uy w.params,nat_lit 251,fO,Array.mk [],⟨0,0,0,0⟩,nat_lit 474,os⟩
noncomputable def RG:HD.gE (HD.F4):=λw=>(λos=>segRunT treeTable pw w (nat_lit 11) (some (.ref 6)) (nat_lit 1) (nat_lit 244) (DD w os) (piecesOf JP cR bN ⟨45,0,48,17⟩ cH),λos=>some (Flow.next,Dy w os,bN,⟨49,0,52,17⟩))
theorem IC:HD.seg pw (nat_lit 11) (some (.ref 6)) (nat_lit 244) DD Dy JP cR bN ⟨45,0,48,17⟩ ⟨49,0,52,17⟩ cH=RG:=by kernel_rfl
name_quick D6 for RG by IC
theorem Zc(w:World):(Fast.D6 w).1=(Fast.D6 w).2:=by kernel_rfl
theorem Xn:HD.Ok (HD.seg pw (nat_lit 11) (some (.ref 6)) (nat_lit 244) DD Dy JP cR bN ⟨45,0,48,17⟩ ⟨49,0,52,17⟩ cH):=HD.gb Fast.D6_eq Zc
def Ma:=HD.dm (LW P) [HD.e P lr 496 (.ref 267)] 23
def Hu:=HD.fa (HG) [(HD.i 53),(HD.i 0),(.ref 256)]
def GF:=HD.sb (E_) [(.ref 267)]
def Bp:=HD.dc [HD.e P bQ 481 (.str aK 194),HD.e P eU 483 (.str lr 482),HD.e P bS 485 (.int (.ofNat 53) 484),HD.e P aD 492 (.ref 264),HD.e P bT 493 (.ref 265)] 5
def BJ:=HD.fl [(HD.i 55),(HD.i 4),(.ref 263)]
def An:=HD.cd lr lr aJ 476 477 478 53 0 0 0 0 254 false 181 255 .none .none .none .none 479 53 480
def B3:=HD.fm 256 3 253 aK 194
def ou:=HD.tp [(.str eX 489)]
def A2:=HD.fs aD Ga (L2.inClass (ht 14) 0)
def pL:=HD.cd aD Ga aJ 486 487 488 55 1 0 0 3 258 true 181 259 .none (.ref 260) (.ref 261) (.ref 262) 490 55 491
def pN:=HD.fu aD Ga (L2.inClass (ht 14) 0) aK 194 263
def oD:=HD.dc [HD.e P bQ 481 (.str aK 194),HD.e P bS 485 (.int (.ofNat 53) 484),HD.e P aD 492 (.ref 264),HD.e P bT 493 (.ref 265),HD.e P vx 494 .none] 2
def pE:=HD.cl lr [(.ref 38)] [(.ref 267),(.ref 38),(.type "ValueError"),(.type "Exception"),(.type "BaseException"),(.type "object")] 266 [] 251 474 482 (.builtin "ValueError.__new__")
def zZ:=HD.su 267
def Bj:=HD.bm (.builtin "object.__init_subclass__") (.ref 267)
noncomputable def Ip:List Stmt:=[ht 14]
noncomputable def TY(P:Params):BT:=(HD.gA [aR,bR,Bp P,ae,BJ,An,B3,ae,aA,ou,ae,A2,pL,pN,ae,oD P,pE,zZ,Bj] ((((Uy P).ins (nat_lit 3) (Ma P)).ins (nat_lit 12) (Hu)).ins (nat_lit 38) (GF)) (nat_lit 251))
noncomputable abbrev DQ(w:World)(os:OsState):SharedT:=⟨TY w.params,nat_lit 270,fO,Array.mk [],⟨0,0,0,0⟩,nat_lit 497,os⟩
noncomputable def S8:HD.gE (HD.F4):=λw=>(λos=>segRunT treeTable pw w (nat_lit 11) (some (.ref 6)) (nat_lit 1) (nat_lit 244) (Dy w os) (piecesOf Ip cR bN ⟨49,0,52,17⟩ cH),λos=>some (Flow.next,DQ w os,bN,⟨53,0,56,17⟩))
theorem J_:HD.seg pw (nat_lit 11) (some (.ref 6)) (nat_lit 244) Dy DQ Ip cR bN ⟨49,0,52,17⟩ ⟨53,0,56,17⟩ cH=S8:=by kernel_rfl
name_quick FX for S8 by J_
theorem Xh(w:World):(Fast.FX w).1=(Fast.FX w).2:=by kernel_rfl
theorem Zd:HD.Ok (HD.seg pw (nat_lit 11) (some (.ref 6)) (nat_lit 244) Dy DQ Ip cR bN ⟨49,0,52,17⟩ ⟨53,0,56,17⟩ cH):=HD.gb Fast.FX_eq Xh
def Tq:=HD.dm (Ma P) [HD.e P lO 519 (.ref 286)] 24
def HM:=HD.fa (Hu) [(HD.i 57),(HD.i 0),(.ref 275)]
def Eo:=HD.sb (GF) [(.ref 286)]
def Bg:=HD.dc [HD.e P bQ 504 (.str aK 194),HD.e P eU 506 (.str lO 505),HD.e P bS 508 (.int (.ofNat 57) 507),HD.e P aD 515 (.ref 283),HD.e P bT 516 (.ref 284)] 5
def Bl:=HD.fl [(HD.i 59),(HD.i 4),(.ref 282)]
def B8:=HD.cd lO lO aJ 499 500 501 57 0 0 0 0 273 false 181 274 .none .none .none .none 502 57 503
def Cz:=HD.fm 275 3 272 aK 194
def pj:=HD.tp [(.str eX 512)]
def A_:=HD.fs aD Hh (L2.inClass (ht 15) 0)
def mF:=HD.cd aD Hh aJ 509 510 511 59 1 0 0 3 277 true 181 278 .none (.ref 279) (.ref 280) (.ref 281) 513 59 514
def nq:=HD.fu aD Hh (L2.inClass (ht 15) 0) aK 194 282
def oX:=HD.dc [HD.e P bQ 504 (.str aK 194),HD.e P bS 508 (.int (.ofNat 57) 507),HD.e P aD 515 (.ref 283),HD.e P bT 516 (.ref 284),HD.e P vx 517 .none] 2
def pb:=HD.cl lO [(.ref 38)] [(.ref 286),(.ref 38),(.type "ValueError"),(.type "Exception"),(.type "BaseException"),(.type "object")] 285 [] 270 497 505 (.builtin "ValueError.__new__")
def AX:=HD.su 286
def Cn:=HD.bm (.builtin "object.__init_subclass__") (.ref 286)
noncomputable def Jm:List Stmt:=[ht 15]
noncomputable def UE(P:Params):BT:=(HD.gA [aR,bR,Bg P,ae,Bl,B8,Cz,ae,aA,pj,ae,A_,mF,nq,ae,oX P,pb,AX,Cn] ((((TY P).ins (nat_lit 3) (Tq P)).ins (nat_lit 12) (HM)).ins (nat_lit 38) (Eo)) (nat_lit 270))
noncomputable abbrev CK(w:World)(os:OsState):SharedT:=⟨UE w.params,nat_lit 289,fO,Array.mk [],⟨0,0,0,0⟩,nat_lit 520,os⟩
noncomputable def U7:HD.gE (HD.F4):=λw=>(λos=>segRunT treeTable pw w (nat_lit 11) (some (.ref 6)) (nat_lit 1) (nat_lit 244) (DQ w os) (piecesOf Jm cR bN ⟨53,0,56,17⟩ cH),λos=>some (Flow.next,CK w os,bN,⟨57,0,60,17⟩))
theorem Ki:HD.seg pw (nat_lit 11) (some (.ref 6)) (nat_lit 244) DQ CK Jm cR bN ⟨53,0,56,17⟩ ⟨57,0,60,17⟩ cH=U7:=by kernel_rfl
name_quick Gn for U7 by Ki
theorem Y3(w:World):(Fast.Gn w).1=(Fast.Gn w).2:=by kernel_rfl
theorem Zw:HD.Ok (HD.seg pw (nat_lit 11) (some (.ref 6)) (nat_lit 244) DQ CK Jm cR bN ⟨53,0,56,17⟩ ⟨57,0,60,17⟩ cH):=HD.gb Fast.Gn_eq Y3
def Mq:=HD.dc [HD.e P V5 165 (.str wV 543),HD.e P vx 166 .none,HD.e P WX 167 .none,HD.e P We 168 (.builtin "__main__.__loader__#opaque"),HD.e P Wr 169 .none,HD.e P By 170 (.ref 6),HD.e P BY 171 (.ref 4),HD.e P AK 173 (.str aJ 172),HD.e P AI 174 .none,HD.e P iG 193 (.ref 21),HD.e P lC 220 (.ref 38),HD.e P lI 243 (.ref 58),HD.e P kF 266 (.ref 77),HD.e P lg 289 (.ref 96),HD.e P lx 312 (.ref 115),HD.e P lp 335 (.ref 134),HD.e P kM 358 (.ref 153),HD.e P kE 381 (.ref 172),HD.e P lQ 404 (.ref 191),HD.e P lW 427 (.ref 210),HD.e P kX 450 (.ref 229),HD.e P kQ 473 (.ref 248),HD.e P lr 496 (.ref 267),HD.e P lO 519 (.ref 286),HD.e P r_ 542 (.ref 305),HD.e P Gg 546 (.int (.ofNat 12) 545),HD.e P EC 548 (.str Ec 547)] 27
def GJ:=HD.fa (HM) [(HD.i 61),(HD.i 0),(.ref 294)]
def vB:=HD.sb (Eo) [(.ref 305)]
def Ba:=HD.dc [HD.e P bQ 527 (.str aK 194),HD.e P eU 529 (.str r_ 528),HD.e P bS 531 (.int (.ofNat 61) 530),HD.e P aD 538 (.ref 302),HD.e P bT 539 (.ref 303)] 5
def BG:=HD.fl [(HD.i 63),(HD.i 4),(.ref 301)]
def BS:=HD.cd r_ r_ aJ 522 523 524 61 0 0 0 0 292 false 181 293 .none .none .none .none 525 61 526
def BP:=HD.fm 294 3 291 aK 194
def mE:=HD.tp [(.str eX 535)]
def BW:=HD.fs aD HP (L2.inClass (ht 16) 0)
def pS:=HD.cd aD HP aJ 532 533 534 63 1 0 0 3 296 true 181 297 .none (.ref 298) (.ref 299) (.ref 300) 536 63 537
def pT:=HD.fu aD HP (L2.inClass (ht 16) 0) aK 194 301
def nO:=HD.dc [HD.e P bQ 527 (.str aK 194),HD.e P bS 531 (.int (.ofNat 61) 530),HD.e P aD 538 (.ref 302),HD.e P bT 539 (.ref 303),HD.e P vx 540 .none] 2
def pK:=HD.cl r_ [(.ref 38)] [(.ref 305),(.ref 38),(.type "ValueError"),(.type "Exception"),(.type "BaseException"),(.type "object")] 304 [] 289 520 528 (.builtin "ValueError.__new__")
def Ca:=HD.su 305
def Aq:=HD.bm (.builtin "object.__init_subclass__") (.ref 305)
noncomputable def Jk:List Stmt:=[ht 16,ht 17,ht 18,ht 19]
noncomputable def TM(P:Params):BT:=(HD.gA [aR,bR,Ba P,ae,BG,BS,BP,ae,aA,mE,ae,BW,pS,pT,ae,nO P,pK,Ca,Aq] ((((UE P).ins (nat_lit 3) (Mq P)).ins (nat_lit 12) (GJ)).ins (nat_lit 38) (vB)) (nat_lit 289))
noncomputable abbrev yh(w:World)(os:OsState):SharedT:=⟨TM w.params,nat_lit 308,fO,Array.mk [],⟨0,0,0,0⟩,nat_lit 549,os⟩
noncomputable def UT:HD.gE (HD.F4):=λw=>(λos=>segRunT treeTable pw w (nat_lit 11) (some (.ref 6)) (nat_lit 1) (nat_lit 271) (CK w os) (piecesOf Jk cR bN ⟨57,0,60,17⟩ cH),λos=>some (Flow.next,yh w os,bN,⟨67,0,67,7⟩))
theorem Kb:HD.seg pw (nat_lit 11) (some (.ref 6)) (nat_lit 271) CK yh Jk cR bN ⟨57,0,60,17⟩ ⟨67,0,67,7⟩ cH=UT:=by kernel_rfl
name_quick G9 for UT by Kb
theorem XN(w:World):(Fast.G9 w).1=(Fast.G9 w).2:=by kernel_rfl
theorem Xu:HD.Ok (HD.seg pw (nat_lit 11) (some (.ref 6)) (nat_lit 271) CK yh Jk cR bN ⟨57,0,60,17⟩ ⟨67,0,67,7⟩ cH):=HD.gb Fast.G9_eq XN
def Vi:=HD.dm (Mq P) [HD.e P Et 613 (.ref 308)] 28
def m5:=HD.dc [HD.e P TR 549 (.ref 309),HD.e P VR 551 (.ref 310),HD.e P Zx9 553 (.ref 311),HD.e P Ms 557 (.ref 312),HD.e P Ru 561 (.ref 313),HD.e P Tz 566 (.ref 314),HD.e P M4 568 (.ref 315),HD.e P Tn 572 (.ref 316),HD.e P Vz 576 (.ref 317),HD.e P ZG 578 (.ref 318),HD.e P La 581 (.ref 319),HD.e P VD 587 (.ref 320),HD.e P Mj 591 (.ref 321),HD.e P Rj 596 (.ref 322),HD.e P S_ 600 (.ref 323),HD.e P Rc 605 (.ref 324),HD.e P SW 608 (.ref 325),HD.e P wA 611 (.ref 327)] 18
def mI:=HD.tp [(.str gS 554),(.str gS 555)]
def mB:=HD.tp [(.str gS 558),(.str gS 559)]
def nu:=HD.tp [(.str gS 562),(.str dN 563),(.str dN 564)]
def pB:=HD.tp [(.str gS 569),(.str dN 570)]
def nW:=HD.tp [(.str dN 573),(.str dN 574)]
def nA:=HD.tp [(.str dN 579)]
def m4:=HD.tp [(.str gS 582),(.str dN 583),(.str dN 584),(.str dN 585)]
def mX:=HD.tp [(.str gS 588),(.str dN 589)]
def oY:=HD.tp [(.str gS 592),(.str dN 593),(.str dN 594)]
def nP:=HD.tp [(.str gS 597),(.str dN 598)]
def oK:=HD.tp [(.str gS 601),(.str dN 602),(.str dN 603)]
def n8:=HD.tp [(.str dN 606)]
def oz:=HD.tp [(.str dN 609)]
def Ay:=HD.dc [HD.e P wA 611 (.ref 327)] 1
noncomputable def CV:List Stmt:=[ht 20]
noncomputable def UH(P:Params):BT:=(HD.gA [m5 P,ae,ae,mI,mB,nu,ae,pB,nW,ae,nA,m4,mX,oY,nP,oK,n8,oz,Ay P,ae] ((TM P).ins (nat_lit 3) (Vi P)) (nat_lit 308))
noncomputable abbrev sS(w:World)(os:OsState):SharedT:=⟨UH w.params,nat_lit 328,fO,Array.mk [],⟨0,0,0,0⟩,nat_lit 614,os⟩
noncomputable def LA:HD.gE (HD.F4):=λw=>(λos=>segRunT treeTable pw (w.withFollow "special-get-raises" false) (nat_lit 11) (some (.ref 6)) (nat_lit 1) (nat_lit 340) (yh (w.withFollow "special-get-raises" false) os) (piecesOf CV cR bN ⟨67,0,67,7⟩ cH),λos=>some (Flow.next,sS (w.withFollow "special-get-raises" false) os,bN,⟨68,0,68,8⟩))
theorem Hx:(λw:World=>HD.seg pw (nat_lit 11) (some (.ref 6)) (nat_lit 340) yh sS CV cR bN ⟨67,0,67,7⟩ ⟨68,0,68,8⟩ cH (w.withFollow "special-get-raises" false))=LA:=by kernel_rfl
name_quick Cq for LA by Hx
theorem VN(w:World):(Fast.Cq w).1=(Fast.Cq w).2:=by kernel_rfl
noncomputable def Lk:HD.gE (HD.F4):=λw=>(λos=>segRunT treeTable pw (w.withFollow "special-get-raises" true) (nat_lit 11) (some (.ref 6)) (nat_lit 1) (nat_lit 340) (yh (w.withFollow "special-get-raises" true) os) (piecesOf CV cR bN ⟨67,0,67,7⟩ cH),λos=>some (Flow.next,sS (w.withFollow "special-get-raises" true) os,bN,⟨68,0,68,8⟩))
theorem EU:(λw:World=>HD.seg pw (nat_lit 11) (some (.ref 6)) (nat_lit 340) yh sS CV cR bN ⟨67,0,67,7⟩ ⟨68,0,68,8⟩ cH (w.withFollow "special-get-raises" true))=Lk:=by kernel_rfl
name_quick Bu for Lk by EU
theorem Uo(w:World):(Fast.Bu w).1=(Fast.Bu w).2:=by kernel_rfl
theorem X0:HD.Ok (HD.seg pw (nat_lit 11) (some (.ref 6)) (nat_lit 340) yh sS CV cR bN ⟨67,0,67,7⟩ ⟨68,0,68,8⟩ cH):=HD.DY "special-get-raises" Fast.Cq_eq Fast.Bu_eq VN Uo
def R_:=HD.dc [HD.e P V5 165 (.str rq 675),HD.e P vx 166 .none,HD.e P WX 167 .none,HD.e P We 168 (.builtin "__main__.__loader__#opaque"),HD.e P Wr 169 .none,HD.e P By 170 (.ref 6),HD.e P BY 171 (.ref 4),HD.e P AK 173 (.str aJ 172),HD.e P AI 174 .none,HD.e P iG 193 (.ref 21),HD.e P lC 220 (.ref 38),HD.e P lI 243 (.ref 58),HD.e P kF 266 (.ref 77),HD.e P lg 289 (.ref 96),HD.e P lx 312 (.ref 115),HD.e P lp 335 (.ref 134),HD.e P kM 358 (.ref 153),HD.e P kE 381 (.ref 172),HD.e P lQ 404 (.ref 191),HD.e P lW 427 (.ref 210),HD.e P kX 450 (.ref 229),HD.e P kQ 473 (.ref 248),HD.e P lr 496 (.ref 267),HD.e P lO 519 (.ref 286),HD.e P r_ 542 (.ref 305),HD.e P Gg 546 (.int (.ofNat 12) 545),HD.e P EC 548 (.str Ec 547),HD.e P Et 613 (.ref 308),HD.e P K6 629 (.ref 328),HD.e P kZ 635 (.ref 333),HD.e P kD 642 (.ref 340),HD.e P lG 648 (.ref 345),HD.e P k9 654 (.ref 350),HD.e P ll 667 (.ref 357),HD.e P lY 674 (.ref 364),HD.e P lJ 685 (.ref 371),HD.e P kS 694 (.ref 378),HD.e P kO 704 (.ref 385),HD.e P lP 713 (.ref 392)] 39
def FL:=HD.fa (GJ) [(HD.i 70),(HD.i 0),(.ref 332),(HD.i 74),(HD.i 0),(.ref 339),(HD.i 78),(HD.i 0),(.ref 344),(HD.i 81),(HD.i 0),(.ref 349),(HD.i 84),(HD.i 0),(.ref 356),(HD.i 91),(HD.i 0),(.ref 363),(HD.i 94),(HD.i 0),(.ref 370),(HD.i 101),(HD.i 0),(.ref 377),(HD.i 107),(HD.i 0),(.ref 384),(HD.i 115),(HD.i 0),(.ref 391)]
def oR:=HD.dc [HD.e P Zx9 614 (.int (.ofNat 1) 615),HD.e P Ms 616 (.int (.ofNat 1) 617),HD.e P M4 618 (.int (.ofNat 1) 619),HD.e P La 620 (.int (.ofNat 0) 621),HD.e P Mj 622 (.int (.ofNat 0) 623)] 5
def A1:=HD.fs kZ kZ (ht 22)
def pF:=HD.cd kZ kZ aJ 630 631 632 70 1 0 0 3 329 true 181 330 .none .none .none (.ref 331) 633 70 634
def oZ:=HD.fu kZ kZ (ht 22) wV 543 332
def mU:=HD.tp [(.str qz 639)]
def BA:=HD.fs kD kD (ht 23)
def nj:=HD.cd kD kD aJ 636 637 638 74 1 0 0 3 334 true 181 335 .none (.ref 336) (.ref 337) (.ref 338) 640 74 641
def nG:=HD.fu kD kD (ht 23) wV 543 339
def Cf:=HD.fs lG lG (ht 24)
def nB:=HD.cd lG lG aJ 643 644 645 78 1 0 0 3 341 true 181 342 .none .none .none (.ref 343) 646 78 647
def oS:=HD.fu lG lG (ht 24) wV 543 344
def AG:=HD.fs k9 k9 (ht 25)
def o9:=HD.cd k9 k9 aJ 649 650 651 81 1 0 0 3 346 true 181 347 .none .none .none (.ref 348) 652 81 653
def mG:=HD.fu k9 k9 (ht 25) wV 543 349
def mQ:=HD.tp [(.str qz 660),(.str RC 661),(.str UP 662),(.str F5 663),(.str Mf 664)]
def Ao:=HD.fs ll ll (ht 27)
def oC:=HD.cd ll ll aJ 657 658 659 84 2 0 0 3 351 true 181 352 .none (.ref 353) (.ref 354) (.ref 355) 665 84 666
def oV:=HD.fu ll ll (ht 27) MK 655 356
def pG:=HD.tp [(.str qz 671)]
def BQ:=HD.fs lY lY (ht 28)
def pH:=HD.cd lY lY aJ 668 669 670 91 1 0 0 3 358 true 181 359 .none (.ref 360) (.ref 361) (.ref 362) 672 91 673
def ni:=HD.fu lY lY (ht 28) MK 655 363
def mK:=HD.tp [(.str qz 680),(.str Vm 681),(.str F5 682)]
def AU:=HD.fs lJ lJ (ht 30)
def oo:=HD.cd lJ lJ aJ 677 678 679 94 1 0 0 3 365 true 181 366 .none (.ref 367) (.ref 368) (.ref 369) 683 94 684
def pD:=HD.fu lJ lJ (ht 30) rq 675 370
def nF:=HD.tp [(.str wA 689),(.str VW 690),(.str SA 691)]
def Ac:=HD.fs kS kS (ht 31)
def pC:=HD.cd kS kS aJ 686 687 688 101 1 0 0 3 372 true 181 373 .none (.ref 374) (.ref 375) (.ref 376) 692 101 693
def nI:=HD.fu kS kS (ht 31) rq 675 377
def mP:=HD.tp [(.str KW 698),(.str LK 699),(.str LG 700),(.str wA 701)]
def Al:=HD.fs kO kO (ht 32)
def oW:=HD.cd kO kO aJ 695 696 697 107 2 0 0 3 379 true 181 380 .none (.ref 381) (.ref 382) (.ref 383) 702 107 703
def nJ:=HD.fu kO kO (ht 32) rq 675 384
def nZ:=HD.tp [(.str qz 708),(.str KW 709),(.str Rh 710)]
def CF:=HD.fs lP lP (ht 33)
def oJ:=HD.cd lP lP aJ 705 706 707 115 1 0 0 3 386 true 181 387 .none (.ref 388) (.ref 389) (.ref 390) 711 115 712
def oF:=HD.fu lP lP (ht 33) rq 675 391
noncomputable def Dx:List Stmt:=[ht 21,ht 22,ht 23,ht 24,ht 25,ht 26,ht 27,ht 28,ht 29,ht 30,ht 31,ht 32,ht 33]
noncomputable def So(P:Params):BT:=(HD.gA [oR P,ae,aA,A1,pF,oZ,ae,aA,mU,ae,BA,nj,nG,ae,aA,Cf,nB,oS,ae,aA,AG,o9,mG,ae,aA,mQ,ae,Ao,oC,oV,ae,aA,pG,ae,BQ,pH,ni,ae,aA,mK,ae,AU,oo,pD,ae,aA,nF,ae,Ac,pC,nI,ae,aA,mP,ae,Al,oW,nJ,ae,aA,nZ,ae,CF,oJ,oF] (((UH P).ins (nat_lit 3) (R_ P)).ins (nat_lit 12) (FL)) (nat_lit 328))
noncomputable abbrev xH(w:World)(os:OsState):SharedT:=⟨So w.params,nat_lit 393,fO,Array.mk [],⟨0,0,0,0⟩,nat_lit 714,os⟩
noncomputable def MR:HD.gE (HD.F4):=λw=>(λos=>segRunT treeTable pw (w.withFollow "special-get-raises" false) (nat_lit 11) (some (.ref 6)) (nat_lit 1) (nat_lit 398) (sS (w.withFollow "special-get-raises" false) os) (piecesOf Dx cR bN ⟨68,0,68,8⟩ cH),λos=>some (Flow.next,xH (w.withFollow "special-get-raises" false) os,bN,⟨115,0,121,47⟩))
theorem GP:(λw:World=>HD.seg pw (nat_lit 11) (some (.ref 6)) (nat_lit 398) sS xH Dx cR bN ⟨68,0,68,8⟩ ⟨115,0,121,47⟩ cH (w.withFollow "special-get-raises" false))=MR:=by kernel_rfl
name_quick A0 for MR by GP
theorem Tt(w:World):(Fast.A0 w).1=(Fast.A0 w).2:=by kernel_rfl
noncomputable def Lc:HD.gE (HD.F4):=λw=>(λos=>segRunT treeTable pw (w.withFollow "special-get-raises" true) (nat_lit 11) (some (.ref 6)) (nat_lit 1) (nat_lit 398) (sS (w.withFollow "special-get-raises" true) os) (piecesOf Dx cR bN ⟨68,0,68,8⟩ cH),λos=>some (Flow.next,xH (w.withFollow "special-get-raises" true) os,bN,⟨115,0,121,47⟩))
theorem Fs:(λw:World=>HD.seg pw (nat_lit 11) (some (.ref 6)) (nat_lit 398) sS xH Dx cR bN ⟨68,0,68,8⟩ ⟨115,0,121,47⟩ cH (w.withFollow "special-get-raises" true))=Lc:=by kernel_rfl
name_quick Co for Lc by Fs
theorem Ur(w:World):(Fast.Co w).1=(Fast.Co w).2:=by kernel_rfl
theorem Yp:HD.Ok (HD.seg pw (nat_lit 11) (some (.ref 6)) (nat_lit 398) sS xH Dx cR bN ⟨68,0,68,8⟩ ⟨115,0,121,47⟩ cH):=HD.DY "special-get-raises" Fast.A0_eq Fast.Co_eq Tt Ur
def Lh:=HD.dc [HD.e P V5 165 (.str d6 740),HD.e P vx 166 .none,HD.e P WX 167 .none,HD.e P We 168 (.builtin "__main__.__loader__#opaque"),HD.e P Wr 169 .none,HD.e P By 170 (.ref 6),HD.e P BY 171 (.ref 4),HD.e P AK 173 (.str aJ 172),HD.e P AI 174 .none,HD.e P iG 193 (.ref 21),HD.e P lC 220 (.ref 38),HD.e P lI 243 (.ref 58),HD.e P kF 266 (.ref 77),HD.e P lg 289 (.ref 96),HD.e P lx 312 (.ref 115),HD.e P lp 335 (.ref 134),HD.e P kM 358 (.ref 153),HD.e P kE 381 (.ref 172),HD.e P lQ 404 (.ref 191),HD.e P lW 427 (.ref 210),HD.e P kX 450 (.ref 229),HD.e P kQ 473 (.ref 248),HD.e P lr 496 (.ref 267),HD.e P lO 519 (.ref 286),HD.e P r_ 542 (.ref 305),HD.e P Gg 546 (.int (.ofNat 12) 545),HD.e P EC 548 (.str Ec 547),HD.e P Et 613 (.ref 308),HD.e P K6 629 (.ref 328),HD.e P kZ 635 (.ref 333),HD.e P kD 642 (.ref 340),HD.e P lG 648 (.ref 345),HD.e P k9 654 (.ref 350),HD.e P ll 667 (.ref 357),HD.e P lY 674 (.ref 364),HD.e P lJ 685 (.ref 371),HD.e P kS 694 (.ref 378),HD.e P kO 704 (.ref 385),HD.e P lP 713 (.ref 392),HD.e P rT 728 (.ref 399),HD.e P rk 739 (.ref 406),HD.e P rQ 749 (.ref 413),HD.e P qa 756 (.ref 420),HD.e P qY 769 (.ref 427),HD.e P rD 776 (.ref 434),HD.e P rh 793 (.ref 441),HD.e P qj 799 (.ref 446),HD.e P qR 809 (.ref 453),HD.e P qN 818 (.ref 460),HD.e P qb 828 (.ref 467),HD.e P rm 838 (.ref 474)] 51
def G7:=HD.fa (FL) [(HD.i 122),(HD.i 0),(.ref 398),(HD.i 140),(HD.i 0),(.ref 405),(HD.i 149),(HD.i 0),(.ref 412),(HD.i 153),(HD.i 0),(.ref 419),(HD.i 165),(HD.i 0),(.ref 426),(HD.i 178),(HD.i 0),(.ref 433),(HD.i 184),(HD.i 0),(.ref 440),(HD.i 198),(HD.i 0),(.ref 445),(HD.i 206),(HD.i 0),(.ref 452),(HD.i 214),(HD.i 0),(.ref 459),(HD.i 221),(HD.i 0),(.ref 466),(HD.i 231),(HD.i 0),(.ref 473)]
def m9:=HD.tp [(.str qz 717),(.str UN 718),(.str LG 719),(.str Vl 720),(.str UI 721),(.str Uj 722),(.str F5 723),(.str Mf 724),(.str VB 725)]
def Bn:=HD.fs rT rT (ht 34)
def mL:=HD.cd rT rT aJ 714 715 716 122 3 0 0 3 393 true 181 394 .none (.ref 395) (.ref 396) (.ref 397) 726 122 727
def n5:=HD.fu rT rT (ht 34) rq 675 398
def pW:=HD.tp [(.str qz 732),(.str T9 733),(.str T6 734),(.str LK 735),(.str wA 736)]
def zO:=HD.fs rk rk (ht 35)
def pY:=HD.cd rk rk aJ 729 730 731 140 2 0 0 3 400 true 181 401 .none (.ref 402) (.ref 403) (.ref 404) 737 140 738
def oN:=HD.fu rk rk (ht 35) rq 675 405
def mJ:=HD.tp [(.str Hs 745),(.str tD 746)]
def Cs:=HD.fs rQ rQ (ht 37)
def pP:=HD.cd rQ rQ aJ 742 743 744 149 2 0 0 3 407 true 181 408 .none (.ref 409) (.ref 410) (.ref 411) 747 149 748
def pR:=HD.fu rQ rQ (ht 37) d6 740 412
def oM:=HD.tp [(.str EI 753)]
def BU:=HD.fs qa qa (ht 38)
def nM:=HD.cd qa qa aJ 750 751 752 153 1 0 0 3 414 true 181 415 .none (.ref 416) (.ref 417) (.ref 418) 754 153 755
def ox:=HD.fu qa qa (ht 38) d6 740 419
def ny:=HD.tp [(.str Lo 760),(.str D7 761),(.str FO 762),(.str LJ 763),(.str MS 764),(.str lS 765),(.str tD 766)]
def BH:=HD.fs qY qY (ht 39)
def oP:=HD.cd qY qY aJ 757 758 759 165 4 0 0 3 421 true 181 422 .none (.ref 423) (.ref 424) (.ref 425) 767 165 768
def m_:=HD.fu qY qY (ht 39) d6 740 426
def n_:=HD.tp [(.str EI 773)]
def A4:=HD.fs rD rD (ht 40)
def mY:=HD.cd rD rD aJ 770 771 772 178 1 0 0 3 428 true 181 429 .none (.ref 430) (.ref 431) (.ref 432) 774 178 775
def pV:=HD.fu rD rD (ht 40) d6 740 433
def nH:=HD.tp [(.str Hs 780),(.str LJ 781),(.str D7 782),(.str Ul 783),(.str FO 784),(.str Lo 785),(.str RY 786),(.str EI 787),(.str UA 788),(.str tD 789),(.str Na 790)]
def Aa:=HD.fs rh rh (ht 41)
def oQ:=HD.cd rh rh aJ 777 778 779 184 5 0 0 3 435 true 181 436 .none (.ref 437) (.ref 438) (.ref 439) 791 184 792
def mZ:=HD.fu rh rh (ht 41) d6 740 440
def Ab:=HD.fs qj qj (ht 42)
def m8:=HD.cd qj qj aJ 794 795 796 198 3 0 0 3 442 true 181 443 .none .none .none (.ref 444) 797 198 798
def mO:=HD.fu qj qj (ht 42) d6 740 445
def ng:=HD.tp [(.str lS 803),(.str FO 804),(.str Fd 805),(.str tD 806)]
def zK:=HD.fs qR qR (ht 43)
def oh:=HD.cd qR qR aJ 800 801 802 206 2 0 0 3 447 true 181 448 .none (.ref 449) (.ref 450) (.ref 451) 807 206 808
def oI:=HD.fu qR qR (ht 43) d6 740 452
def nN:=HD.tp [(.str lS 813),(.str Fd 814),(.str tD 815)]
def Bo:=HD.fs qN qN (ht 44)
def pz:=HD.cd qN qN aJ 810 811 812 214 2 0 0 3 454 true 181 455 .none (.ref 456) (.ref 457) (.ref 458) 816 214 817
def oB:=HD.fu qN qN (ht 44) d6 740 459
def o_:=HD.tp [(.str UG 822),(.str Te 823),(.str KQ 824),(.str Va 825)]
def BB:=HD.fs qb qb (ht 45)
def ph:=HD.cd qb qb aJ 819 820 821 221 1 0 0 3 461 true 181 462 .none (.ref 463) (.ref 464) (.ref 465) 826 221 827
def mH:=HD.fu qb qb (ht 45) d6 740 466
def oG:=HD.tp [(.str LY 832),(.str Fd 833),(.str UQ 834),(.str KQ 835)]
def zJ:=HD.fs rm rm (ht 46)
def n6:=HD.cd rm rm aJ 829 830 831 231 1 0 0 3 468 true 181 469 .none (.ref 470) (.ref 471) (.ref 472) 836 231 837
def pM:=HD.fu rm rm (ht 46) d6 740 473
noncomputable def Ku:List Stmt:=[ht 34,ht 35,ht 36,ht 37,ht 38,ht 39,ht 40,ht 41,ht 42,ht 43,ht 44,ht 45,ht 46]
noncomputable def Ve(P:Params):BT:=(HD.gA [ae,aA,m9,ae,Bn,mL,n5,ae,aA,pW,ae,zO,pY,oN,ae,aA,mJ,ae,Cs,pP,pR,ae,aA,oM,ae,BU,nM,ox,ae,aA,ny,ae,BH,oP,m_,ae,aA,n_,ae,A4,mY,pV,ae,aA,nH,ae,Aa,oQ,mZ,ae,aA,Ab,m8,mO,ae,aA,ng,ae,zK,oh,oI,ae,aA,nN,ae,Bo,pz,oB,ae,aA,o_,ae,BB,ph,mH,ae,aA,oG,ae,zJ,n6,pM] (((So P).ins (nat_lit 3) (Lh P)).ins (nat_lit 12) (G7)) (nat_lit 393))
noncomputable abbrev CJ(w:World)(os:OsState):SharedT:=⟨Ve w.params,nat_lit 475,fO,Array.mk [],⟨0,0,0,0⟩,nat_lit 839,os⟩
noncomputable def TU:HD.gE (HD.F4):=λw=>(λos=>segRunT treeTable pw w (nat_lit 11) (some (.ref 6)) (nat_lit 1) (nat_lit 395) (xH w os) (piecesOf Ku cR bN ⟨115,0,121,47⟩ cH),λos=>some (Flow.next,CJ w os,bN,⟨231,0,244,21⟩))
theorem Kq:HD.seg pw (nat_lit 11) (some (.ref 6)) (nat_lit 395) xH CJ Ku cR bN ⟨115,0,121,47⟩ ⟨231,0,244,21⟩ cH=TU:=by kernel_rfl
name_quick EG for TU by Kq
theorem Yz(w:World):(Fast.EG w).1=(Fast.EG w).2:=by kernel_rfl
theorem XG:HD.Ok (HD.seg pw (nat_lit 11) (some (.ref 6)) (nat_lit 395) xH CJ Ku cR bN ⟨115,0,121,47⟩ ⟨231,0,244,21⟩ cH):=HD.gb Fast.EG_eq Yz
def Ak:=HD.dm (Lh P) [HD.e P rC 846 (.ref 481),HD.e P qO 854 (.ref 488),HD.e P q_ 867 (.ref 495),HD.e P qA 876 (.ref 502),HD.e P qH 889 (.ref 509)] 56
def G0:=HD.fa (G7) [(HD.i 245),(HD.i 0),(.ref 480),(HD.i 253),(HD.i 0),(.ref 487),(HD.i 261),(HD.i 0),(.ref 494),(HD.i 283),(HD.i 0),(.ref 501),(HD.i 293),(HD.i 0),(.ref 508)]
def mD:=HD.tp [(.str lS 842),(.str MS 843)]
def AL:=HD.fs rC rC (ht 47)
def pX:=HD.cd rC rC aJ 839 840 841 245 1 0 0 3 475 true 181 476 .none (.ref 477) (.ref 478) (.ref 479) 844 245 845
def oy:=HD.fu rC rC (ht 47) d6 740 480
def pJ:=HD.tp [(.str lS 850),(.str Lf 851)]
def zW:=HD.fs qO qO (ht 48)
def mM:=HD.cd qO qO aJ 847 848 849 253 2 0 0 3 482 true 181 483 .none (.ref 484) (.ref 485) (.ref 486) 852 253 853
def og:=HD.fu qO qO (ht 48) d6 740 487
def nK:=HD.tp [(.str lS 858),(.str L7 859),(.str U2 860),(.str Lf 861),(.str Sx 862),(.str Na 863),(.str tD 864)]
def AH:=HD.fs q_ q_ (ht 49)
def pO:=HD.cd q_ q_ aJ 855 856 857 261 5 0 0 3 489 true 181 490 .none (.ref 491) (.ref 492) (.ref 493) 865 261 866
def oH:=HD.fu q_ q_ (ht 49) d6 740 494
def nD:=HD.tp [(.str lS 871),(.str M3 872),(.str RA 873)]
def Ci:=HD.fs qA qA (ht 50)
def pd:=HD.cd qA qA aJ 868 869 870 283 2 0 0 3 496 true 181 497 .none (.ref 498) (.ref 499) (.ref 500) 874 283 875
def nc:=HD.fu qA qA (ht 50) d6 740 501
def nQ:=HD.tp [(.str Hs 880),(.str D7 881),(.str lS 882),(.str M3 883),(.str T3 884),(.str LY 885),(.str L7 886)]
def BN:=HD.fs qH qH (ht 51)
def pq:=HD.cd qH qH aJ 877 878 879 293 1 0 0 3 503 true 181 504 .none (.ref 505) (.ref 506) (.ref 507) 887 293 888
def mS:=HD.fu qH qH (ht 51) d6 740 508
noncomputable def Ks:List Stmt:=[ht 47,ht 48,ht 49,ht 50,ht 51]
noncomputable def Xo(P:Params):BT:=(HD.gA [ae,aA,mD,ae,AL,pX,oy,ae,aA,pJ,ae,zW,mM,og,ae,aA,nK,ae,AH,pO,oH,ae,aA,nD,ae,Ci,pd,nc,ae,aA,nQ,ae,BN,pq,mS] (((Ve P).ins (nat_lit 3) (Ak P)).ins (nat_lit 12) (G0)) (nat_lit 475))
noncomputable abbrev DI(w:World)(os:OsState):SharedT:=⟨Xo w.params,nat_lit 510,fO,Array.mk [],⟨0,0,0,0⟩,nat_lit 890,os⟩
noncomputable def VC:HD.gE (HD.F4):=λw=>(λos=>segRunT treeTable pw w (nat_lit 11) (some (.ref 6)) (nat_lit 1) (nat_lit 162) (CJ w os) (piecesOf Ks cR bN ⟨231,0,244,21⟩ cH),λos=>some (Flow.next,DI w os,bN,⟨293,0,314,94⟩))
theorem Kr:HD.seg pw (nat_lit 11) (some (.ref 6)) (nat_lit 162) CJ DI Ks cR bN ⟨231,0,244,21⟩ ⟨293,0,314,94⟩ cH=VC:=by kernel_rfl
name_quick Fe for VC by Kr
theorem X6(w:World):(Fast.Fe w).1=(Fast.Fe w).2:=by kernel_rfl
theorem YS:HD.Ok (HD.seg pw (nat_lit 11) (some (.ref 6)) (nat_lit 162) CJ DI Ks cR bN ⟨231,0,244,21⟩ ⟨293,0,314,94⟩ cH):=HD.gb Fast.Fe_eq X6
noncomputable def S0(r:List (Obj)):List (Obj):=PySem.W.boot_o_0 P::PySem.W.boot_o_1 P::PySem.W.boot_o_2 P::Ak P::PySem.W.boot_o_4 P::PySem.W.boot_o_5 P::PySem.W.boot_o_6 P::PySem.W.boot_o_7 P::PySem.W.boot_o_8 P::PySem.W.boot_o_9 P::PySem.W.boot_o_10 P::ae::r
noncomputable def R1(r:List (Obj)):List (Obj):=G0::FH::HE::ae::aA::BI::ae::Lv::Am::Bs::zQ::bR::r
noncomputable def RX(r:List (Obj)):List (Obj):=LO P::ae::MY::Lq::MG::ae::aA::Bb::ae::LN::A9::Aw::r
noncomputable def T8(r:List (Obj)):List (Obj):=ae::Cg P::vB::zV::Lg::M_::aR::bR::Ld P::ae::MU::MD::r
noncomputable def SV(r:List (Obj)):List (Obj):=KO::ae::aA::Bt::ae::Nf::AY::AJ::ae::AD P::AA::Lr::r
noncomputable def Sz(r:List (Obj)):List (Obj):=Mo::aR::bR::K_ P::ae::Nc::KY::Ls::ae::aA::AV::ae::r
noncomputable def Uu(r:List (Obj)):List (Obj):=Lp::Ag::Ai::ae::Be P::Bv::M9::MB::aR::bR::MA P::ae::r
noncomputable def RK(r:List (Obj)):List (Obj):=Mv::LV::MI::ae::aA::CA::ae::Ly::AZ::Ar::ae::Cr P::r
noncomputable def Ut(r:List (Obj)):List (Obj):=Af::Mx::MM::aR::bR::G1 P::ae::Fq::Ed::HQ::ae::aA::r
noncomputable def Rk(r:List (Obj)):List (Obj):=uh::ae::Gy::ub::wk::ae::vQ P::vi::Ff::HR::aR::bR::r
noncomputable def Nw(r:List (Obj)):List (Obj):=FZ P::ae::D8::Gm::Gv::ae::aA::va::ae::Gj::vo::uS::r
noncomputable def NR(r:List (Obj)):List (Obj):=ae::uO P::uV::GH::FC::aR::bR::Ew P::ae::E1::Ez::El::r
noncomputable def Ob(r:List (Obj)):List (Obj):=ae::aA::uu::ae::G3::vF::vD::ae::v_ P::uD::E8::Fu::r
noncomputable def OT(r:List (Obj)):List (Obj):=aR::bR::F2 P::ae::Fx::HI::GX::ae::aA::uC::ae::EW::r
noncomputable def Qt(r:List (Obj)):List (Obj):=vV::u4::ae::uT P::vG::Fn::GK::aR::bR::Ep P::ae::FW::r
noncomputable def NZ(r:List (Obj)):List (Obj):=Hc::Eu::ae::aA::uG::ae::GR::uL::vK::ae::uM P::wg::r
noncomputable def PM(r:List (Obj)):List (Obj):=F0::Ej::aR::bR::AW P::ae::CB::As::Cw::ae::aA::pQ::r
noncomputable def OL(r:List (Obj)):List (Obj):=ae::zX::oj::oU::ae::nR P::pI::CD::A6::aR::bR::Bi P::r
noncomputable def O1(r:List (Obj)):List (Obj):=ae::Bc::zR::B7::ae::aA::nV::ae::Bd::n9::pk::ae::r
noncomputable def OF(r:List (Obj)):List (Obj):=oE P::nS::B6::Ct::aR::bR::A7 P::ae::AB::B9::Bh::ae::r
noncomputable def PX(r:List (Obj)):List (Obj):=aA::oO::ae::B_::mT::nC::ae::nU P::om::AM::Ae::aR::r
noncomputable def NM(r:List (Obj)):List (Obj):=bR::Bp P::ae::BJ::An::B3::ae::aA::ou::ae::A2::pL::r
noncomputable def Pk(r:List (Obj)):List (Obj):=pN::ae::oD P::pE::zZ::Bj::aR::bR::Bg P::ae::Bl::B8::r
noncomputable def Pj(r:List (Obj)):List (Obj):=Cz::ae::aA::pj::ae::A_::mF::nq::ae::oX P::pb::AX::r
noncomputable def O7(r:List (Obj)):List (Obj):=Cn::aR::bR::Ba P::ae::BG::BS::BP::ae::aA::mE::ae::r
noncomputable def NB(r:List (Obj)):List (Obj):=BW::pS::pT::ae::nO P::pK::Ca::Aq::m5 P::ae::ae::mI::r
noncomputable def Pe(r:List (Obj)):List (Obj):=mB::nu::ae::pB::nW::ae::nA::m4::mX::oY::nP::oK::r
noncomputable def Pm(r:List (Obj)):List (Obj):=n8::oz::Ay P::ae::oR P::ae::aA::A1::pF::oZ::ae::aA::r
noncomputable def Nz(r:List (Obj)):List (Obj):=mU::ae::BA::nj::nG::ae::aA::Cf::nB::oS::ae::aA::r
noncomputable def Nv(r:List (Obj)):List (Obj):=AG::o9::mG::ae::aA::mQ::ae::Ao::oC::oV::ae::aA::r
noncomputable def OK(r:List (Obj)):List (Obj):=pG::ae::BQ::pH::ni::ae::aA::mK::ae::AU::oo::pD::r
noncomputable def N6(r:List (Obj)):List (Obj):=ae::aA::nF::ae::Ac::pC::nI::ae::aA::mP::ae::Al::r
noncomputable def Qe(r:List (Obj)):List (Obj):=oW::nJ::ae::aA::nZ::ae::CF::oJ::oF::ae::aA::m9::r
noncomputable def Oc(r:List (Obj)):List (Obj):=ae::Bn::mL::n5::ae::aA::pW::ae::zO::pY::oN::ae::r
noncomputable def Of(r:List (Obj)):List (Obj):=aA::mJ::ae::Cs::pP::pR::ae::aA::oM::ae::BU::nM::r
noncomputable def NC(r:List (Obj)):List (Obj):=ox::ae::aA::ny::ae::BH::oP::m_::ae::aA::n_::ae::r
noncomputable def Ni(r:List (Obj)):List (Obj):=A4::mY::pV::ae::aA::nH::ae::Aa::oQ::mZ::ae::aA::r
noncomputable def OJ(r:List (Obj)):List (Obj):=Ab::m8::mO::ae::aA::ng::ae::zK::oh::oI::ae::aA::r
noncomputable def NN(r:List (Obj)):List (Obj):=nN::ae::Bo::pz::oB::ae::aA::o_::ae::BB::ph::mH::r
noncomputable def Oi(r:List (Obj)):List (Obj):=ae::aA::oG::ae::zJ::n6::pM::ae::aA::mD::ae::AL::r
noncomputable def Nh(r:List (Obj)):List (Obj):=pX::oy::ae::aA::pJ::ae::zW::mM::og::ae::aA::nK::r
noncomputable def Qj(r:List (Obj)):List (Obj):=ae::AH::pO::oH::ae::aA::nD::ae::Ci::pd::nc::ae::r
noncomputable def NF(r:List (Obj)):List (Obj):=aA::nQ::ae::BN::pq::mS::r
noncomputable def Ib(P:Params):Heap:=⟨Array.mk (S0 P (R1 (RX P (T8 P (SV P (Sz P (Uu P (RK P (Ut P (Rk P (Nw P (NR P (Ob P (OT P (Qt P (NZ P (PM P (OL P (O1 (OF P (PX P (NM P (Pk P (Pj P (O7 P (NB P (Pe (Pm P (Nz (Nv (OK (N6 (Qe (Oc (Of (NC (Ni (OJ (NN (Oi (Nh (Qj (NF []))))))))))))))))))))))))))))))))))))))))))),⟨[],[],[],0,[],[],false,#[],[],0,false,false,false,(.ofNat 0),[(.ofNat 2000),(.ofNat 10),(.ofNat 10)],false,0,true,[],[],0,false⟩⟩
noncomputable def OZ:Drawn:=⟨0,0,0,0⟩
noncomputable def OV:Nat:=nat_lit 890
noncomputable abbrev Py:World->OsState->Shared:=HD.Tv Ib OZ OV
noncomputable def Zqz:HD.gE (Option Shared):=λw=>(λos=>topRun treeTable pw w (nat_lit 11) (some (.ref 6)) (nat_lit 2) (DI w os).abs (Thread.mk (doneF Flow.next) bN ⟨293,0,314,94⟩ cH),λos=>some (Py w os))
theorem ND:HD.fin pw (nat_lit 11) (some (.ref 6)) (nat_lit 2) DI Py (Thread.mk (doneF Flow.next) bN ⟨293,0,314,94⟩ cH)=Zqz:=by kernel_rfl
name_quick M7 for Zqz by ND
theorem Ziz(w:World):(Fast.M7 w).1=(Fast.M7 w).2:=by kernel_rfl
theorem Zhz:HD.Ok (HD.fin pw (nat_lit 11) (some (.ref 6)) (nat_lit 2) DI Py (Thread.mk (doneF Flow.next) bN ⟨293,0,314,94⟩ cH)):=HD.gb Fast.M7_eq Ziz
theorem YH:behindTheImports pw=(V7++(Wx++(Wd++(Wy++(Ws++(Wm++(Wo++(V2++(Wh++(Kj++(Jw++(JP++(Ip++(Jm++(Jk++(CV++(Dx++(Ku++(Ks++([]:List Stmt)))))))))))))))))))):=by kernel_rfl
theorem Vf:HD.Goes pw (nat_lit 11) (some (.ref 6)) Py (nat_lit 12+(nat_lit 1+(nat_lit 255+(nat_lit 244+(nat_lit 244+(nat_lit 244+(nat_lit 244+(nat_lit 244+(nat_lit 244+(nat_lit 244+(nat_lit 244+(nat_lit 244+(nat_lit 244+(nat_lit 244+(nat_lit 244+(nat_lit 244+(nat_lit 271+(nat_lit 340+(nat_lit 398+(nat_lit 395+(nat_lit 162+(nat_lit 2)))))))))))))))))))))) W_ (topStub pw):=HD.UJ Zha (HD.Ug YH Zhb (HD.dn Zh1 (HD.dn Zh2 (HD.dn Zh3 (HD.dn Zh4 (HD.dn Zh5 (HD.dn Zh6 (HD.dn Zh7 (HD.dn Zh8 (HD.dn Zh9 (HD.dn XZ (HD.dn XU (HD.dn Xn (HD.dn Zd (HD.dn Zw (HD.dn Xu (HD.dn X0 (HD.dn Yp (HD.dn XG (HD.dn YS (HD.Sk (env:=cR) Zhz)))))))))))))))))))))
noncomputable def hq:Program:=HD.view pw [ht 0,ht 2,ht 3,ht 4,ht 5,ht 6,ht 7,ht 8,ht 9,ht 10,ht 11,ht 12,ht 13,ht 14,ht 15,ht 16,ht 18,ht 19,ht 20,ht 21,ht 22,ht 23,ht 24,ht 25,ht 27,ht 28,ht 30,ht 31,ht 32,ht 33,ht 34,ht 35,ht 37,ht 38,ht 39,ht 40,ht 41,ht 42,ht 43,ht 44,ht 45,ht 46,ht 47,ht 48,ht 49,ht 50,ht 51]
noncomputable def hl:List Str:=[PySem.Str.ofString "KIDS_DUE",PySem.Str.ofString "BINDER_OVER"]
noncomputable def RI(r:List (Addr×Obj)):List (Addr×Obj):=(nat_lit 2,PySem.W.boot_o_2 P)::(nat_lit 3,Ak P)::(nat_lit 15,ae)::(nat_lit 17,BI)::(nat_lit 18,ae)::(nat_lit 20,Am)::(nat_lit 21,Bs)::(nat_lit 22,zQ)::(nat_lit 29,ae)::(nat_lit 31,Bb)::(nat_lit 32,ae)::(nat_lit 34,A9)::r
noncomputable def TX(r:List (Addr×Obj)):List (Addr×Obj):=(nat_lit 35,Aw)::(nat_lit 36,ae)::(nat_lit 37,Cg P)::(nat_lit 38,vB)::(nat_lit 39,zV)::(nat_lit 42,aR)::(nat_lit 49,ae)::(nat_lit 51,Bt)::(nat_lit 52,ae)::(nat_lit 54,AY)::(nat_lit 55,AJ)::(nat_lit 56,ae)::r
noncomputable def Sq(r:List (Addr×Obj)):List (Addr×Obj):=(nat_lit 57,AD P)::(nat_lit 58,AA)::(nat_lit 61,aR)::(nat_lit 68,ae)::(nat_lit 70,AV)::(nat_lit 71,ae)::(nat_lit 73,Ag)::(nat_lit 74,Ai)::(nat_lit 75,ae)::(nat_lit 76,Be P)::(nat_lit 77,Bv)::(nat_lit 80,aR)::r
noncomputable def Vq(r:List (Addr×Obj)):List (Addr×Obj):=(nat_lit 87,ae)::(nat_lit 89,CA)::(nat_lit 90,ae)::(nat_lit 92,AZ)::(nat_lit 93,Ar)::(nat_lit 94,ae)::(nat_lit 95,Cr P)::(nat_lit 96,Af)::(nat_lit 99,aR)::(nat_lit 106,ae)::(nat_lit 108,uh)::(nat_lit 109,ae)::r
noncomputable def Vs(r:List (Addr×Obj)):List (Addr×Obj):=(nat_lit 111,ub)::(nat_lit 112,wk)::(nat_lit 113,ae)::(nat_lit 114,vQ P)::(nat_lit 115,vi)::(nat_lit 118,aR)::(nat_lit 125,ae)::(nat_lit 127,va)::(nat_lit 128,ae)::(nat_lit 130,vo)::(nat_lit 131,uS)::(nat_lit 132,ae)::r
noncomputable def Sa(r:List (Addr×Obj)):List (Addr×Obj):=(nat_lit 133,uO P)::(nat_lit 134,uV)::(nat_lit 137,aR)::(nat_lit 144,ae)::(nat_lit 146,uu)::(nat_lit 147,ae)::(nat_lit 149,vF)::(nat_lit 150,vD)::(nat_lit 151,ae)::(nat_lit 152,v_ P)::(nat_lit 153,uD)::(nat_lit 156,aR)::r
noncomputable def Sv(r:List (Addr×Obj)):List (Addr×Obj):=(nat_lit 163,ae)::(nat_lit 165,uC)::(nat_lit 166,ae)::(nat_lit 168,vV)::(nat_lit 169,u4)::(nat_lit 170,ae)::(nat_lit 171,uT P)::(nat_lit 172,vG)::(nat_lit 175,aR)::(nat_lit 182,ae)::(nat_lit 184,uG)::(nat_lit 185,ae)::r
noncomputable def VT(r:List (Addr×Obj)):List (Addr×Obj):=(nat_lit 187,uL)::(nat_lit 188,vK)::(nat_lit 189,ae)::(nat_lit 190,uM P)::(nat_lit 191,wg)::(nat_lit 194,aR)::(nat_lit 201,ae)::(nat_lit 203,pQ)::(nat_lit 204,ae)::(nat_lit 206,oj)::(nat_lit 207,oU)::(nat_lit 208,ae)::r
noncomputable def Q_(r:List (Addr×Obj)):List (Addr×Obj):=(nat_lit 209,nR P)::(nat_lit 210,pI)::(nat_lit 213,aR)::(nat_lit 220,ae)::(nat_lit 222,nV)::(nat_lit 223,ae)::(nat_lit 225,n9)::(nat_lit 226,pk)::(nat_lit 227,ae)::(nat_lit 228,oE P)::(nat_lit 229,nS)::(nat_lit 232,aR)::r
noncomputable def Ua(r:List (Addr×Obj)):List (Addr×Obj):=(nat_lit 239,ae)::(nat_lit 241,oO)::(nat_lit 242,ae)::(nat_lit 244,mT)::(nat_lit 245,nC)::(nat_lit 246,ae)::(nat_lit 247,nU P)::(nat_lit 248,om)::(nat_lit 251,aR)::(nat_lit 258,ae)::(nat_lit 260,ou)::(nat_lit 261,ae)::r
noncomputable def NK(r:List (Addr×Obj)):List (Addr×Obj):=(nat_lit 263,pL)::(nat_lit 264,pN)::(nat_lit 265,ae)::(nat_lit 266,oD P)::(nat_lit 267,pE)::(nat_lit 270,aR)::(nat_lit 277,ae)::(nat_lit 279,pj)::(nat_lit 280,ae)::(nat_lit 282,mF)::(nat_lit 283,nq)::(nat_lit 284,ae)::r
noncomputable def O6(r:List (Addr×Obj)):List (Addr×Obj):=(nat_lit 285,oX P)::(nat_lit 286,pb)::(nat_lit 289,aR)::(nat_lit 296,ae)::(nat_lit 298,mE)::(nat_lit 299,ae)::(nat_lit 301,pS)::(nat_lit 302,pT)::(nat_lit 303,ae)::(nat_lit 304,nO P)::(nat_lit 305,pK)::(nat_lit 308,m5 P)::r
noncomputable def NS(r:List (Addr×Obj)):List (Addr×Obj):=(nat_lit 309,ae)::(nat_lit 310,ae)::(nat_lit 311,mI)::(nat_lit 312,mB)::(nat_lit 313,nu)::(nat_lit 314,ae)::(nat_lit 315,pB)::(nat_lit 316,nW)::(nat_lit 317,ae)::(nat_lit 318,nA)::(nat_lit 319,m4)::(nat_lit 320,mX)::r
noncomputable def OE(r:List (Addr×Obj)):List (Addr×Obj):=(nat_lit 321,oY)::(nat_lit 322,nP)::(nat_lit 323,oK)::(nat_lit 324,n8)::(nat_lit 325,oz)::(nat_lit 327,ae)::(nat_lit 328,oR P)::(nat_lit 329,ae)::(nat_lit 332,pF)::(nat_lit 333,oZ)::(nat_lit 334,ae)::(nat_lit 336,mU)::r
noncomputable def N0(r:List (Addr×Obj)):List (Addr×Obj):=(nat_lit 337,ae)::(nat_lit 339,nj)::(nat_lit 340,nG)::(nat_lit 341,ae)::(nat_lit 344,nB)::(nat_lit 345,oS)::(nat_lit 346,ae)::(nat_lit 349,o9)::(nat_lit 350,mG)::(nat_lit 351,ae)::(nat_lit 353,mQ)::(nat_lit 354,ae)::r
noncomputable def P_(r:List (Addr×Obj)):List (Addr×Obj):=(nat_lit 356,oC)::(nat_lit 357,oV)::(nat_lit 358,ae)::(nat_lit 360,pG)::(nat_lit 361,ae)::(nat_lit 363,pH)::(nat_lit 364,ni)::(nat_lit 365,ae)::(nat_lit 367,mK)::(nat_lit 368,ae)::(nat_lit 370,oo)::(nat_lit 371,pD)::r
noncomputable def OG(r:List (Addr×Obj)):List (Addr×Obj):=(nat_lit 372,ae)::(nat_lit 374,nF)::(nat_lit 375,ae)::(nat_lit 377,pC)::(nat_lit 378,nI)::(nat_lit 379,ae)::(nat_lit 381,mP)::(nat_lit 382,ae)::(nat_lit 384,oW)::(nat_lit 385,nJ)::(nat_lit 386,ae)::(nat_lit 388,nZ)::r
noncomputable def NW(r:List (Addr×Obj)):List (Addr×Obj):=(nat_lit 389,ae)::(nat_lit 391,oJ)::(nat_lit 392,oF)::(nat_lit 393,ae)::(nat_lit 395,m9)::(nat_lit 396,ae)::(nat_lit 398,mL)::(nat_lit 399,n5)::(nat_lit 400,ae)::(nat_lit 402,pW)::(nat_lit 403,ae)::(nat_lit 405,pY)::r
noncomputable def N3(r:List (Addr×Obj)):List (Addr×Obj):=(nat_lit 406,oN)::(nat_lit 407,ae)::(nat_lit 409,mJ)::(nat_lit 410,ae)::(nat_lit 412,pP)::(nat_lit 413,pR)::(nat_lit 414,ae)::(nat_lit 416,oM)::(nat_lit 417,ae)::(nat_lit 419,nM)::(nat_lit 420,ox)::(nat_lit 421,ae)::r
noncomputable def O9(r:List (Addr×Obj)):List (Addr×Obj):=(nat_lit 423,ny)::(nat_lit 424,ae)::(nat_lit 426,oP)::(nat_lit 427,m_)::(nat_lit 428,ae)::(nat_lit 430,n_)::(nat_lit 431,ae)::(nat_lit 433,mY)::(nat_lit 434,pV)::(nat_lit 435,ae)::(nat_lit 437,nH)::(nat_lit 438,ae)::r
noncomputable def NO(r:List (Addr×Obj)):List (Addr×Obj):=(nat_lit 440,oQ)::(nat_lit 441,mZ)::(nat_lit 442,ae)::(nat_lit 445,m8)::(nat_lit 446,mO)::(nat_lit 447,ae)::(nat_lit 449,ng)::(nat_lit 450,ae)::(nat_lit 452,oh)::(nat_lit 453,oI)::(nat_lit 454,ae)::(nat_lit 456,nN)::r
noncomputable def Ow(r:List (Addr×Obj)):List (Addr×Obj):=(nat_lit 457,ae)::(nat_lit 459,pz)::(nat_lit 460,oB)::(nat_lit 461,ae)::(nat_lit 463,o_)::(nat_lit 464,ae)::(nat_lit 466,ph)::(nat_lit 467,mH)::(nat_lit 468,ae)::(nat_lit 470,oG)::(nat_lit 471,ae)::(nat_lit 473,n6)::r
noncomputable def OX(r:List (Addr×Obj)):List (Addr×Obj):=(nat_lit 474,pM)::(nat_lit 475,ae)::(nat_lit 477,mD)::(nat_lit 478,ae)::(nat_lit 480,pX)::(nat_lit 481,oy)::(nat_lit 482,ae)::(nat_lit 484,pJ)::(nat_lit 485,ae)::(nat_lit 487,mM)::(nat_lit 488,og)::(nat_lit 489,ae)::r
noncomputable def Oy(r:List (Addr×Obj)):List (Addr×Obj):=(nat_lit 491,nK)::(nat_lit 492,ae)::(nat_lit 494,pO)::(nat_lit 495,oH)::(nat_lit 496,ae)::(nat_lit 498,nD)::(nat_lit 499,ae)::(nat_lit 501,pd)::(nat_lit 502,nc)::(nat_lit 503,ae)::(nat_lit 505,nQ)::(nat_lit 506,ae)::r
noncomputable def Qb(r:List (Addr×Obj)):List (Addr×Obj):=(nat_lit 508,pq)::(nat_lit 509,mS)::r
noncomputable def X2(P:Params):List (Addr×Obj):=(RI P (TX P (Sq P (Vq P (Vs P (Sa P (Sv P (VT P (Q_ P (Ua P (NK P (O6 P (NS (OE P (N0 (P_ (OG (NW (N3 (O9 (NO (Ow (OX (Oy (Qb [])))))))))))))))))))))))))
noncomputable def ZhK(P:Params):Frag:=(nat_lit 2,PySem.W.boot_o_2 P)::(nat_lit 3,Ak P)::(nat_lit 15,ae)::(nat_lit 17,BI)::(nat_lit 18,ae)::(nat_lit 20,Am)::(nat_lit 21,Bs)::(nat_lit 22,zQ)::(nat_lit 29,ae)::(nat_lit 31,Bb)::(nat_lit 32,ae)::(nat_lit 34,A9)::(nat_lit 35,Aw)::(nat_lit 36,ae)::(nat_lit 37,Cg P)::(nat_lit 38,vB)::(nat_lit 39,zV)::(nat_lit 42,aR)::(nat_lit 49,ae)::(nat_lit 51,Bt)::(nat_lit 52,ae)::(nat_lit 54,AY)::(nat_lit 55,AJ)::(nat_lit 56,ae)::(nat_lit 57,AD P)::(nat_lit 58,AA)::(nat_lit 61,aR)::(nat_lit 68,ae)::(nat_lit 70,AV)::(nat_lit 71,ae)::(nat_lit 73,Ag)::(nat_lit 74,Ai)::(nat_lit 75,ae)::(nat_lit 76,Be P)::(nat_lit 77,Bv)::(nat_lit 80,aR)::(nat_lit 87,ae)::(nat_lit 89,CA)::(nat_lit 90,ae)::(nat_lit 92,AZ)::(nat_lit 93,Ar)::(nat_lit 94,ae)::(nat_lit 95,Cr P)::(nat_lit 96,Af)::(nat_lit 99,aR)::(nat_lit 106,ae)::(nat_lit 108,uh)::(nat_lit 109,ae)::(nat_lit 111,ub)::(nat_lit 112,wk)::(nat_lit 113,ae)::(nat_lit 114,vQ P)::(nat_lit 115,vi)::(nat_lit 118,aR)::(nat_lit 125,ae)::(nat_lit 127,va)::(nat_lit 128,ae)::(nat_lit 130,vo)::(nat_lit 131,uS)::(nat_lit 132,ae)::(nat_lit 133,uO P)::(nat_lit 134,uV)::(nat_lit 137,aR)::(nat_lit 144,ae)::(nat_lit 146,uu)::(nat_lit 147,ae)::(nat_lit 149,vF)::(nat_lit 150,vD)::(nat_lit 151,ae)::(nat_lit 152,v_ P)::(nat_lit 153,uD)::(nat_lit 156,aR)::(nat_lit 163,ae)::(nat_lit 165,uC)::(nat_lit 166,ae)::(nat_lit 168,vV)::(nat_lit 169,u4)::(nat_lit 170,ae)::(nat_lit 171,uT P)::(nat_lit 172,vG)::(nat_lit 175,aR)::(nat_lit 182,ae)::(nat_lit 184,uG)::(nat_lit 185,ae)::(nat_lit 187,uL)::(nat_lit 188,vK)::(nat_lit 189,ae)::(nat_lit 190,uM P)::(nat_lit 191,wg)::(nat_lit 194,aR)::(nat_lit 201,ae)::(nat_lit 203,pQ)::(nat_lit 204,ae)::(nat_lit 206,oj)::(nat_lit 207,oU)::(nat_lit 208,ae)::(nat_lit 209,nR P)::(nat_lit 210,pI)::(nat_lit 213,aR)::(nat_lit 220,ae)::(nat_lit 222,nV)::(nat_lit 223,ae)::(nat_lit 225,n9)::(nat_lit 226,pk)::(nat_lit 227,ae)::(nat_lit 228,oE P)::(nat_lit 229,nS)::(nat_lit 232,aR)::(nat_lit 239,ae)::(nat_lit 241,oO)::(nat_lit 242,ae)::(nat_lit 244,mT)::(nat_lit 245,nC)::(nat_lit 246,ae)::(nat_lit 247,nU P)::(nat_lit 248,om)::(nat_lit 251,aR)::(nat_lit 258,ae)::(nat_lit 260,ou)::(nat_lit 261,ae)::(nat_lit 263,pL)::(nat_lit 264,pN)::(nat_lit 265,ae)::(nat_lit 266,oD P)::(nat_lit 267,pE)::(nat_lit 270,aR)::(nat_lit 277,ae)::(nat_lit 279,pj)::(nat_lit 280,ae)::(nat_lit 282,mF)::(nat_lit 283,nq)::(nat_lit 284,ae)::(nat_lit 285,oX P)::(nat_lit 286,pb)::(nat_lit 289,aR)::(nat_lit 296,ae)::(nat_lit 298,mE)::(nat_lit 299,ae)::(nat_lit 301,pS)::(nat_lit 302,pT)::(nat_lit 303,ae)::(nat_lit 304,nO P)::(nat_lit 305,pK)::(nat_lit 308,m5 P)::(nat_lit 309,ae)::(nat_lit 310,ae)::(nat_lit 311,mI)::(nat_lit 312,mB)::(nat_lit 313,nu)::(nat_lit 314,ae)::(nat_lit 315,pB)::(nat_lit 316,nW)::(nat_lit 317,ae)::(nat_lit 318,nA)::(nat_lit 319,m4)::(nat_lit 320,mX)::(nat_lit 321,oY)::(nat_lit 322,nP)::(nat_lit 323,oK)::(nat_lit 324,n8)::(nat_lit 325,oz)::(nat_lit 327,ae)::(nat_lit 328,oR P)::(nat_lit 329,ae)::(nat_lit 332,pF)::(nat_lit 333,oZ)::(nat_lit 334,ae)::(nat_lit 336,mU)::(nat_lit 337,ae)::(nat_lit 339,nj)::(nat_lit 340,nG)::(nat_lit 341,ae)::(nat_lit 344,nB)::(nat_lit 345,oS)::(nat_lit 346,ae)::(nat_lit 349,o9)::(nat_lit 350,mG)::(nat_lit 351,ae)::(nat_lit 353,mQ)::(nat_lit 354,ae)::(nat_lit 356,oC)::(nat_lit 357,oV)::(nat_lit 358,ae)::(nat_lit 360,pG)::(nat_lit 361,ae)::(nat_lit 363,pH)::(nat_lit 364,ni)::(nat_lit 365,ae)::(nat_lit 367,mK)::(nat_lit 368,ae)::(nat_lit 370,oo)::(nat_lit 371,pD)::(nat_lit 372,ae)::(nat_lit 374,nF)::(nat_lit 375,ae)::(nat_lit 377,pC)::(nat_lit 378,nI)::(nat_lit 379,ae)::(nat_lit 381,mP)::(nat_lit 382,ae)::(nat_lit 384,oW)::(nat_lit 385,nJ)::(nat_lit 386,ae)::(nat_lit 388,nZ)::(nat_lit 389,ae)::(nat_lit 391,oJ)::(nat_lit 392,oF)::(nat_lit 393,ae)::(nat_lit 395,m9)::(nat_lit 396,ae)::(nat_lit 398,mL)::(nat_lit 399,n5)::(nat_lit 400,ae)::(nat_lit 402,pW)::(nat_lit 403,ae)::(nat_lit 405,pY)::(nat_lit 406,oN)::(nat_lit 407,ae)::(nat_lit 409,mJ)::(nat_lit 410,ae)::(nat_lit 412,pP)::(nat_lit 413,pR)::(nat_lit 414,ae)::(nat_lit 416,oM)::(nat_lit 417,ae)::(nat_lit 419,nM)::(nat_lit 420,ox)::(nat_lit 421,ae)::(nat_lit 423,ny)::(nat_lit 424,ae)::(nat_lit 426,oP)::(nat_lit 427,m_)::(nat_lit 428,ae)::(nat_lit 430,n_)::(nat_lit 431,ae)::(nat_lit 433,mY)::(nat_lit 434,pV)::(nat_lit 435,ae)::(nat_lit 437,nH)::(nat_lit 438,ae)::(nat_lit 440,oQ)::(nat_lit 441,mZ)::(nat_lit 442,ae)::(nat_lit 445,m8)::(nat_lit 446,mO)::(nat_lit 447,ae)::(nat_lit 449,ng)::(nat_lit 450,ae)::(nat_lit 452,oh)::(nat_lit 453,oI)::(nat_lit 454,ae)::(nat_lit 456,nN)::(nat_lit 457,ae)::(nat_lit 459,pz)::(nat_lit 460,oB)::(nat_lit 461,ae)::(nat_lit 463,o_)::(nat_lit 464,ae)::(nat_lit 466,ph)::(nat_lit 467,mH)::(nat_lit 468,ae)::(nat_lit 470,oG)::(nat_lit 471,ae)::(nat_lit 473,n6)::(nat_lit 474,pM)::(nat_lit 475,ae)::(nat_lit 477,mD)::(nat_lit 478,ae)::(nat_lit 480,pX)::(nat_lit 481,oy)::(nat_lit 482,ae)::(nat_lit 484,pJ)::(nat_lit 485,ae)::(nat_lit 487,mM)::(nat_lit 488,og)::(nat_lit 489,ae)::(nat_lit 491,nK)::(nat_lit 492,ae)::(nat_lit 494,pO)::(nat_lit 495,oH)::(nat_lit 496,ae)::(nat_lit 498,nD)::(nat_lit 499,ae)::(nat_lit 501,pd)::(nat_lit 502,nc)::(nat_lit 503,ae)::(nat_lit 505,nQ)::(nat_lit 506,ae)::(nat_lit 508,pq)::(nat_lit 509,mS)::[]
noncomputable def ZhA:List Addr:=[nat_lit 2,nat_lit 3,nat_lit 15,nat_lit 17,nat_lit 18,nat_lit 20,nat_lit 21,nat_lit 22,nat_lit 29,nat_lit 31,nat_lit 32,nat_lit 34,nat_lit 35,nat_lit 36,nat_lit 37,nat_lit 38,nat_lit 39,nat_lit 42,nat_lit 49,nat_lit 51,nat_lit 52,nat_lit 54,nat_lit 55,nat_lit 56,nat_lit 57,nat_lit 58,nat_lit 61,nat_lit 68,nat_lit 70,nat_lit 71,nat_lit 73,nat_lit 74,nat_lit 75,nat_lit 76,nat_lit 77,nat_lit 80,nat_lit 87,nat_lit 89,nat_lit 90,nat_lit 92,nat_lit 93,nat_lit 94,nat_lit 95,nat_lit 96,nat_lit 99,nat_lit 106,nat_lit 108,nat_lit 109,nat_lit 111,nat_lit 112,nat_lit 113,nat_lit 114,nat_lit 115,nat_lit 118,nat_lit 125,nat_lit 127,nat_lit 128,nat_lit 130,nat_lit 131,nat_lit 132,nat_lit 133,nat_lit 134,nat_lit 137,nat_lit 144,nat_lit 146,nat_lit 147,nat_lit 149,nat_lit 150,nat_lit 151,nat_lit 152,nat_lit 153,nat_lit 156,nat_lit 163,nat_lit 165,nat_lit 166,nat_lit 168,nat_lit 169,nat_lit 170,nat_lit 171,nat_lit 172,nat_lit 175,nat_lit 182,nat_lit 184,nat_lit 185,nat_lit 187,nat_lit 188,nat_lit 189,nat_lit 190,nat_lit 191,nat_lit 194,nat_lit 201,nat_lit 203,nat_lit 204,nat_lit 206,nat_lit 207,nat_lit 208,nat_lit 209,nat_lit 210,nat_lit 213,nat_lit 220,nat_lit 222,nat_lit 223,nat_lit 225,nat_lit 226,nat_lit 227,nat_lit 228,nat_lit 229,nat_lit 232,nat_lit 239,nat_lit 241,nat_lit 242,nat_lit 244,nat_lit 245,nat_lit 246,nat_lit 247,nat_lit 248,nat_lit 251,nat_lit 258,nat_lit 260,nat_lit 261,nat_lit 263,nat_lit 264,nat_lit 265,nat_lit 266,nat_lit 267,nat_lit 270,nat_lit 277,nat_lit 279,nat_lit 280,nat_lit 282,nat_lit 283,nat_lit 284,nat_lit 285,nat_lit 286,nat_lit 289,nat_lit 296,nat_lit 298,nat_lit 299,nat_lit 301,nat_lit 302,nat_lit 303,nat_lit 304,nat_lit 305,nat_lit 308,nat_lit 309,nat_lit 310,nat_lit 311,nat_lit 312,nat_lit 313,nat_lit 314,nat_lit 315,nat_lit 316,nat_lit 317,nat_lit 318,nat_lit 319,nat_lit 320,nat_lit 321,nat_lit 322,nat_lit 323,nat_lit 324,nat_lit 325,nat_lit 327,nat_lit 328,nat_lit 329,nat_lit 332,nat_lit 333,nat_lit 334,nat_lit 336,nat_lit 337,nat_lit 339,nat_lit 340,nat_lit 341,nat_lit 344,nat_lit 345,nat_lit 346,nat_lit 349,nat_lit 350,nat_lit 351,nat_lit 353,nat_lit 354,nat_lit 356,nat_lit 357,nat_lit 358,nat_lit 360,nat_lit 361,nat_lit 363,nat_lit 364,nat_lit 365,nat_lit 367,nat_lit 368,nat_lit 370,nat_lit 371,nat_lit 372,nat_lit 374,nat_lit 375,nat_lit 377,nat_lit 378,nat_lit 379,nat_lit 381,nat_lit 382,nat_lit 384,nat_lit 385,nat_lit 386,nat_lit 388,nat_lit 389,nat_lit 391,nat_lit 392,nat_lit 393,nat_lit 395,nat_lit 396,nat_lit 398,nat_lit 399,nat_lit 400,nat_lit 402,nat_lit 403,nat_lit 405,nat_lit 406,nat_lit 407,nat_lit 409,nat_lit 410,nat_lit 412,nat_lit 413,nat_lit 414,nat_lit 416,nat_lit 417,nat_lit 419,nat_lit 420,nat_lit 421,nat_lit 423,nat_lit 424,nat_lit 426,nat_lit 427,nat_lit 428,nat_lit 430,nat_lit 431,nat_lit 433,nat_lit 434,nat_lit 435,nat_lit 437,nat_lit 438,nat_lit 440,nat_lit 441,nat_lit 442,nat_lit 445,nat_lit 446,nat_lit 447,nat_lit 449,nat_lit 450,nat_lit 452,nat_lit 453,nat_lit 454,nat_lit 456,nat_lit 457,nat_lit 459,nat_lit 460,nat_lit 461,nat_lit 463,nat_lit 464,nat_lit 466,nat_lit 467,nat_lit 468,nat_lit 470,nat_lit 471,nat_lit 473,nat_lit 474,nat_lit 475,nat_lit 477,nat_lit 478,nat_lit 480,nat_lit 481,nat_lit 482,nat_lit 484,nat_lit 485,nat_lit 487,nat_lit 488,nat_lit 489,nat_lit 491,nat_lit 492,nat_lit 494,nat_lit 495,nat_lit 496,nat_lit 498,nat_lit 499,nat_lit 501,nat_lit 502,nat_lit 503,nat_lit 505,nat_lit 506,nat_lit 508,nat_lit 509]
noncomputable def hX(s:Shared):Bool:=xlAt hq [] s&&recOk [] s
noncomputable abbrev hH:Hook:=kHook ZhK ZhA (λ_=>by kernel_rfl)
noncomputable def Zqs:HD.gE ((Bool×Nat×Option Value)):=λw=>(λos=>((boot_heap w.params).isNs mainGlobals&&(Array.mk []:Array GenState).size==0,(boot_heap w.params).objs.size,(boot_heap w.params).nsMap mainGlobals "__annotations__"),λos=>(true,(nat_lit 11),(some (.ref 6))))
theorem Nj:HD.sz (nat_lit 11) (some (.ref 6))=Zqs:=by kernel_rfl
name_quick K2 for Zqs by Nj
theorem Zis(w:World):(Fast.K2 w).1=(Fast.K2 w).2:=by kernel_rfl
theorem Zhs:HD.Ok (HD.sz (nat_lit 11) (some (.ref 6))):=HD.gb Fast.K2_eq Zis
noncomputable def Ss:HD.gE (Bool):=λw=>(λos=>(staticsOk (importedModules pw.main.body) (boot_heap w.params) (Ib w.params)&&namesBound pw (Ib w.params)&&gensDone (Py w os)&&laidKept (boot_heap w.params) (Ib w.params)),λos=>true)
theorem IE:HD.la pw Ib OZ OV=Ss:=by kernel_rfl
name_quick Es for Ss by IE
theorem Yi(w:World):(Fast.Es w).1=(Fast.Es w).2:=by kernel_rfl
theorem Za:HD.Ok (HD.la pw Ib OZ OV):=HD.gb Fast.Es_eq Yi
noncomputable def Rf(w:World):=((λos:OsState=>openSeen hq hl (importedModules pw.main.body) hX true (Py w os)),(λ_:OsState=>openGood hq hl))
theorem IP:HD.lb pw hq hl hX Ib OZ OV=Rf:=by kernel_rfl
name_quick GZ for Rf by IP
theorem Y4(w:World):(Fast.GZ w).1=(Fast.GZ w).2:=by kernel_rfl
theorem Zy:HD.Ok (HD.lb pw hq hl hX Ib OZ OV):=HD.gb Fast.GZ_eq Y4
noncomputable def UC:HD.gE ((List (Option Obj))):=λw=>(λos=>ZhA.map (Py w os).heap.get?,λos=>(X2 w.params).map λp=>some p.2)
theorem Iv:HD.lc hH Ib OZ OV=UC:=by kernel_rfl
name_quick Ft for UC by Iv
theorem Yw(w:World):(Fast.Ft w).1=(Fast.Ft w).2:=by kernel_rfl
theorem Y2:HD.Ok (HD.lc hH Ib OZ OV):=HD.gb Fast.Ft_eq Yw
theorem hleft:LeftO pw hq hl hX hH.obs hH.val 10074:=HD.left (by kernel_rfl) (by decide) (λs=>by kernel_rfl) Zhs Vf (by decide+kernel) Za Zy Y2
end K56
end
open PySem PySem.W PyProof.Rows
set_option maxRecDepth 100000 in
set_option maxHeartbeats 0 in
theorem PySem.Challenge.cw_keeper_k56_shown_word_by_word_holds : PySem.Challenge.rw_keeper_k56_shown_word_by_word.Holds := by
  w_on; o_law
  refine PySem.W.holds_open (q := K56.hq) (loose := K56.hl) (Xt := K56.hX) (XP := PySem.W.XL K56.hq []) (Yf := PySem.W.Hook.obs K56.hH) (Ya := PySem.W.Hook.val K56.hH) (YP := PySem.W.Hook.says K56.hH) (N := 10074) K56.hleft (PySem.W.Hook.of _) (PySem.W.Hook.keeps _) (fun s e => PySem.W.xl_of s (Bool.and_eq_true_iff.mp e).1) PySem.W.XL.keeps (by rfl) (by rfl) (by rfl) (fun s e => PySem.W.recFacts_of (Bool.and_eq_true_iff.mp e).2) (by rfl) (by assumption) (by decide +kernel) ⟨rfl, rfl, rfl, rfl, rfl, by decide +kernel⟩ ?hw ?hc
  case hw => w_witness2
  delta K56.hH
  k_fill
  refine K56.walk (l := PySem.Challenge.rw_keeper_k56_shown_word_by_word) rfl rfl (fun w h Y => PySem.W.kIn_of Y) ?F
  case F =>
    intro w mg fa h KX G hmg
    have T : ∃ t, K56.Txt (L2.KOf KX) mg t := by
      dsimp only [L2.KOf]
      refine' K56.txt_mk KX G ?a0 ?a1 ?a2 ?a3 ?a4 ?a5 ?a6 ?a7 ?a8 ?a9 ?a10 ?a11 ?a12 ?a13 ?a14 ?a15 ?a16 ?a17 ?a18 ?a19 ?a20 ?a21 ?a22 ?a23 ?a24 ?a25 ?a26 ?z_ValueError ?z_all ?z_int ?z_isinstance ?z_len ?z_list ?z_max ?z_min ?z_range ?z_set ?z_sorted ?z_str ?z_tuple ?z_zip ?g_MOST_LETTERS ?g_LETTERS ?g_KIDS_DUE ?lk_KIDS_DUE ?sy_KIDS_DUE ?ks_KIDS_DUE ?rf_KIDS_DUE ?u0_KIDS_DUE ?v0_KIDS_DUE ?u1_KIDS_DUE ?v1_KIDS_DUE ?u2_KIDS_DUE ?v2_KIDS_DUE ?u3_KIDS_DUE ?v3_KIDS_DUE ?u4_KIDS_DUE ?v4_KIDS_DUE ?u5_KIDS_DUE ?v5_KIDS_DUE ?u6_KIDS_DUE ?v6_KIDS_DUE ?u7_KIDS_DUE ?v7_KIDS_DUE ?u8_KIDS_DUE ?v8_KIDS_DUE ?u9_KIDS_DUE ?v9_KIDS_DUE ?u10_KIDS_DUE ?v10_KIDS_DUE ?u11_KIDS_DUE ?v11_KIDS_DUE ?u12_KIDS_DUE ?v12_KIDS_DUE ?u13_KIDS_DUE ?v13_KIDS_DUE ?u14_KIDS_DUE ?v14_KIDS_DUE ?u15_KIDS_DUE ?v15_KIDS_DUE ?u16_KIDS_DUE ?v16_KIDS_DUE ?u17_KIDS_DUE ?v17_KIDS_DUE ?g_BINDER_OVER ?lk_BINDER_OVER ?sy_BINDER_OVER ?vs_BINDER_OVER ?g_KeeperError ?g_Great ?g_NoPlace ?g_NoStep ?g_Dry ?g_NoVariable ?g_NoName ?g_NotAll ?g_NotSome ?g_NotSame ?g_Unlike ?g_NoText ?g_NoWord ?g_TwiceTold ?g_NotClosed ?x_nv ?x_ke ?x_c1 ?x_c2 ?x_c3 ?x_c4 ?x_c5 ?x_c6 ?x_s2 ?x_k1 ?x_k2 ?x_a1 ?x_a2
      (case a0 => apply L3.dfi; iterate 4 k_is)
      (case a1 => apply L3.dfi; iterate 4 k_is)
      (case a2 => apply L3.dfi; iterate 4 k_is)
      (case a3 => apply L3.dfi; iterate 4 k_is)
      (case a4 => apply L3.dfi; iterate 4 k_is)
      (case a5 => apply L3.dfi; iterate 4 k_is)
      (case a6 => apply L3.dfi; iterate 4 k_is)
      (case a7 => apply L3.dfi; iterate 4 k_is)
      (case a8 => apply L3.dfi; iterate 4 k_is)
      (case a9 => apply L3.dfi; iterate 4 k_is)
      (case a10 => apply L3.dfi; iterate 4 k_is)
      (case a11 => apply L3.dfi; iterate 4 k_is)
      (case a12 => apply L3.dfi; iterate 4 k_is)
      (case a13 => apply L3.dfi; iterate 4 k_is)
      (case a14 => apply L3.dfi; iterate 4 k_is)
      (case a15 => apply L3.dfi; iterate 4 k_is)
      (case a16 => apply L3.dfi; iterate 4 k_is)
      (case a17 => apply L3.dfi; iterate 4 k_is)
      (case a18 => apply L3.dfi; iterate 4 k_is)
      (case a19 => apply L3.dfi; iterate 4 k_is)
      (case a20 => apply L3.dfi; iterate 4 k_is)
      (case a21 => apply L3.dfi; iterate 4 k_is)
      (case a22 => apply L3.dfi; iterate 4 k_is)
      (case a23 => apply L3.dfi; iterate 4 k_is)
      (case a24 => apply L3.dfi; iterate 4 k_is)
      (case a25 => apply L3.dfi; iterate 4 k_is)
      (case a26 => apply L3.dfi; iterate 4 k_is)
      (case z_ValueError => k_is)
      (case z_all => k_is)
      (case z_int => k_is)
      (case z_isinstance => k_is)
      (case z_len => k_is)
      (case z_list => k_is)
      (case z_max => k_is)
      (case z_min => k_is)
      (case z_range => k_is)
      (case z_set => k_is)
      (case z_sorted => k_is)
      (case z_str => k_is)
      (case z_tuple => k_is)
      (case z_zip => k_is)
      (case g_MOST_LETTERS => k_is)
      (case g_LETTERS => k_is)
      (case g_KIDS_DUE => k_is)
      (case lk_KIDS_DUE => k_is)
      (case sy_KIDS_DUE => decide +kernel)
      (case ks_KIDS_DUE => kernel_rfl)
      (case rf_KIDS_DUE => (dsimp only [HD.e]; rfl))
      (case u0_KIDS_DUE => k_is)
      (case v0_KIDS_DUE => decide +kernel)
      (case u1_KIDS_DUE => k_is)
      (case v1_KIDS_DUE => decide +kernel)
      (case u2_KIDS_DUE => k_is)
      (case v2_KIDS_DUE => decide +kernel)
      (case u3_KIDS_DUE => k_is)
      (case v3_KIDS_DUE => decide +kernel)
      (case u4_KIDS_DUE => k_is)
      (case v4_KIDS_DUE => decide +kernel)
      (case u5_KIDS_DUE => k_is)
      (case v5_KIDS_DUE => decide +kernel)
      (case u6_KIDS_DUE => k_is)
      (case v6_KIDS_DUE => decide +kernel)
      (case u7_KIDS_DUE => k_is)
      (case v7_KIDS_DUE => decide +kernel)
      (case u8_KIDS_DUE => k_is)
      (case v8_KIDS_DUE => decide +kernel)
      (case u9_KIDS_DUE => k_is)
      (case v9_KIDS_DUE => decide +kernel)
      (case u10_KIDS_DUE => k_is)
      (case v10_KIDS_DUE => decide +kernel)
      (case u11_KIDS_DUE => k_is)
      (case v11_KIDS_DUE => decide +kernel)
      (case u12_KIDS_DUE => k_is)
      (case v12_KIDS_DUE => decide +kernel)
      (case u13_KIDS_DUE => k_is)
      (case v13_KIDS_DUE => decide +kernel)
      (case u14_KIDS_DUE => k_is)
      (case v14_KIDS_DUE => decide +kernel)
      (case u15_KIDS_DUE => k_is)
      (case v15_KIDS_DUE => decide +kernel)
      (case u16_KIDS_DUE => k_is)
      (case v16_KIDS_DUE => decide +kernel)
      (case u17_KIDS_DUE => k_is)
      (case v17_KIDS_DUE => decide +kernel)
      (case g_BINDER_OVER => k_is)
      (case lk_BINDER_OVER => k_is)
      (case sy_BINDER_OVER => decide +kernel)
      (case vs_BINDER_OVER => kernel_rfl)
      (case g_KeeperError => k_is)
      (case g_Great => k_is)
      (case g_NoPlace => k_is)
      (case g_NoStep => k_is)
      (case g_Dry => k_is)
      (case g_NoVariable => k_is)
      (case g_NoName => k_is)
      (case g_NotAll => k_is)
      (case g_NotSome => k_is)
      (case g_NotSame => k_is)
      (case g_Unlike => k_is)
      (case g_NoText => k_is)
      (case g_NoWord => k_is)
      (case g_TwiceTold => k_is)
      (case g_NotClosed => k_is)
      (case x_nv => kernel_rfl)
      (case x_ke => kernel_rfl)
      (case x_c1 => k_is)
      (case x_c2 => k_is)
      (case x_c3 => k_is)
      (case x_c4 => k_is)
      (case x_c5 => k_is)
      (case x_c6 => kernel_rfl)
      (case x_s2 => k_is)
      (case x_k1 => kernel_rfl)
      (case x_k2 => kernel_rfl)
      (case x_a1 => kernel_rfl)
      (case x_a2 => kernel_rfl)
    obtain ⟨t, T⟩ := T
    exact K56.fin T hmg
