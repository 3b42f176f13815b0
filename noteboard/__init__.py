"""Noteboard: hands that lay notes and take them by patterns, all weavings, and a small checker."""
