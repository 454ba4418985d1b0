"""Partlabels: counters that number the parts of documents."""
