"""Formkin: records on a wire by forms that change."""
