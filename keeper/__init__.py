"""Keeper: a kernel for terms and kinds, where kinds may speak of terms."""
