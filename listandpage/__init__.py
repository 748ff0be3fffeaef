"""Listandpage: a list's filter and a page's check, two spellings of one right."""
